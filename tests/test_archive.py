"""Point 35: archives."""

import random
import unittest

from letters import commit, precommits, prevotes
from tribunal.archive import archive_lines, read_archive
from tribunal.client import Client
from tribunal.errors import BadArchive, BadLine, BadWeights
from tribunal.votes import prevote, proposal
from tribunal.wire import letter_line, read_letter

FOUR = [1, 1, 1, 1]
WEIGHS = "w3x10"  # behind it, only members among which is 3 are a quorum


def entry(block, height, members=(0, 1, 2), turn=0):
    return (block, commit(members, turn, block, height=height))


PLAIN = [entry("abc", 0), entry("d", 1, (3, 1, 2), 4), entry("p0q0r5", 2)]
WEIGHED = [entry("abc", 0), entry(WEIGHS, 1), entry("x", 2, (3,)), entry("y", 3, (0, 3), 2)]
LEANING = [("a", prevotes([0, 1, 2], 0, "a") + precommits([1, 2, 3], 3, "a") + prevotes([1, 2, 3], 3, "a", 0))]


def lines_of(entries):
    return archive_lines([block for block, _ in entries], [paper for _, paper in entries])


def readable(line):
    try:
        read_letter(line)
    except BadLine:
        return False
    return True


class ArchiveCase(unittest.TestCase):
    def assert_reads(self, lines, entries, weights=FOUR, grants=()):
        before = list(lines)
        found = read_archive(weights, grants, lines)
        self.assertEqual(lines, before)
        self.assertIs(type(found), list)
        for pair in found:
            self.assertEqual((type(pair), type(pair[0]), type(pair[1])), (tuple, str, list))
        self.assertEqual(found, entries)
        self.assertEqual(Client(weights, grants).catch_up(found), len(found))

    def assert_bad(self, lines, at, weights=FOUR):
        before = list(lines)
        with self.assertRaises(BadArchive) as caught:
            read_archive(weights, (), lines)
        self.assertIs(type(caught.exception), BadArchive)
        self.assertEqual(caught.exception.at, at)
        self.assertEqual(lines, before)


class Writing(ArchiveCase):
    def test_no_blocks(self):
        self.assertEqual(archive_lines([], []), [])

    def test_one_block(self):
        self.assertEqual(lines_of([entry("abc", 0, (0, 2))]), [
            "block abc 4", "0 prevote 0 0 abc -", "2 prevote 0 0 abc -", "0 precommit 0 0 abc", "2 precommit 0 0 abc",
        ])

    def test_several_blocks(self):
        lines = lines_of(WEIGHED)
        self.assertIs(type(lines), list)
        expected = []
        for block, paper in WEIGHED:
            expected += [f"block {block} {len(paper)}"] + [letter_line(letter) for letter in paper]
        self.assertEqual(lines, expected)
        self.assertEqual([line for line in lines if line.startswith("block")], [
            "block abc 6", "block w3x10 6", "block x 2", "block y 4",
        ])

    def test_a_paper_without_letters(self):
        self.assertEqual(archive_lines(["a", "b"], [[], []]), ["block a 0", "block b 0"])

    def test_the_lists_stay(self):
        blocks, papers = ["a"], [commit([0], 0, "a")]
        lines = archive_lines(blocks, papers)
        lines.append("x")
        self.assertEqual((blocks, papers), (["a"], [commit([0], 0, "a")]))


class Reading(ArchiveCase):
    def test_what_was_written(self):
        self.assert_reads([], [])
        for entries in (PLAIN, WEIGHED, LEANING):
            for many in range(len(entries) + 1):
                self.assert_reads(lines_of(entries[:many]), entries[:many])

    def test_under_the_given_weights_and_grants(self):
        self.assert_reads(lines_of([entry("a", 0, (1,))]), [entry("a", 0, (1,))], [1, 5, 1], [7])
        self.assert_bad(lines_of([entry("a", 0, (0, 1)), entry("b", 1, (0, 1))]), 0)
        entries = [entry("a", 0, (0, 1)), entry("b", 1)]
        self.assert_reads(lines_of(entries), entries, [1, 1])

    def test_wrong_weights(self):
        with self.assertRaises(BadWeights) as caught:
            read_archive([1, 0], (), lines_of(PLAIN))
        self.assertEqual(caught.exception.at, 1)

    def test_a_paper_is_judged_under_the_new_committee(self):
        old = [entry(WEIGHS, 0), entry("x", 1)]
        self.assert_reads(lines_of(old), old[:1])
        self.assert_bad(lines_of(old + [entry("y", 2, (3,))]), 7)
        new = [entry(WEIGHS, 0), entry("x", 1, (3,)), entry("y", 2, (3,))]
        self.assert_reads(lines_of(new), new)

    def test_further_letters_in_a_paper(self):
        more = [(0, proposal(0, 0, "z")), (99, prevote(5, 4, None, 2))]
        entries = [("a", more + commit([0, 1, 2], 0, "a") + more), entry("b", 1)]
        self.assert_reads(lines_of(entries), entries)

    def test_many_blocks(self):
        entries = [entry(f"b{height}", height, random.Random(height).sample(range(4), 3)) for height in range(60)]
        self.assert_reads(lines_of(entries), entries)


class Torn(ArchiveCase):
    """Entries that are torn at the end."""

    def test_lines_that_are_left_out_at_the_end(self):
        for entries in (PLAIN, WEIGHED, LEANING):
            lines = lines_of(entries)
            ends = [len(lines_of(entries[:many])) for many in range(len(entries) + 1)]
            for many in range(len(lines) + 1):
                whole = max(at for at, end in enumerate(ends) if end <= many)
                self.assert_reads(lines[:many], entries[:whole])

    def test_the_last_line_cut_at_every_place(self):
        backwards = [(block, paper[::-1]) for block, paper in PLAIN]
        longer = [entry("abcdef", 0), ("abcdef", commit([2, 1, 0], 12, "abcdef", height=1)[::-1])]
        for entries in (PLAIN, backwards, WEIGHED, LEANING, longer, [entry("a", 0)]):
            lines = lines_of(entries)
            for many in range(len(lines[-1])):
                self.assert_reads(lines[:-1] + [lines[-1][:many]], entries[:-1])
            self.assert_reads(lines, entries)

    def test_a_cut_line_that_can_be_read(self):
        lines = lines_of([("abc", commit([0, 1, 2], 0, "abc"))])
        self.assertEqual(lines[-1], "2 precommit 0 0 abc")
        self.assertTrue(readable("2 precommit 0 0 ab"))
        self.assert_reads(lines[:-1] + ["2 precommit 0 0 ab"], [])

    def test_the_head_line_cut_at_every_place(self):
        head = "block abcdef 12"
        for many in range(len(head) + 1):
            self.assert_reads(lines_of(PLAIN) + [head[:many]], PLAIN)
            self.assert_reads([head[:many]], [])

    def test_a_head_line_alone(self):
        for many in (0, 1, 9, 999999999):
            self.assert_reads([f"block x {many}"], [])
            self.assert_reads(lines_of(PLAIN) + [f"block x {many}"], PLAIN)

    def test_missing_lines_whatever_the_others_are(self):
        for others in (["nothing"], ["", "", ""], ["block x 5", "0 precommit 0 0"], ["x", letter_line(PLAIN[0][1][0])]):
            for many in (len(others) + 1, 10, 999999999):
                lines = [f"block abc {many}"] + others
                self.assert_reads(lines, [])
                self.assert_reads(lines_of(PLAIN) + lines, PLAIN)

    def test_the_paper_of_the_last_entry_without_its_last_letter(self):
        for entries in (PLAIN, WEIGHED, LEANING):
            block, paper = entries[-1]
            lines = lines_of(entries[:-1] + [(block, paper[:-1])])
            self.assert_reads(lines, entries[:-1])
            lines = lines_of(entries)[:-1]
            self.assert_reads(lines, entries[:-1])

    def test_the_last_paper_shows_nothing(self):
        for paper in ([], commit([0, 1], 0, "x", height=3), commit([0, 1, 2], 0, "y", height=3), PLAIN[0][1]):
            self.assert_reads(lines_of(PLAIN + [("x", paper)]), PLAIN)

    def test_a_last_line_that_should_be_another_one(self):
        lines = lines_of(PLAIN)
        self.assert_reads(lines + [lines[-1]], PLAIN)
        self.assert_reads(lines + ["0 prevote 0 0 a -"], PLAIN)
        self.assert_reads(lines + [""], PLAIN)
        self.assert_reads(lines[:-1] + ["block x 3"], PLAIN[:-1])
        self.assert_reads(lines[:-1] + ["block abc 6"], PLAIN[:-1])


class Wrong(ArchiveCase):
    """Lines and entries before the end."""

    wrong_heads = (
        "blok abc 6", "Block abc 6", "blocks abc 6", "6 abc block", "block abc", "block 6", "block", "", " ", "abc 6",
        "block abc 06", "block abc 00", "block abc +6", "block abc -6", "block abc 6.0", "block abc six", "block abc ",
        "block abc 1000000000", "block abc 0000000006", "block abc 6 ", " block abc 6", "block  abc 6", "block abc  6",
        "block abc 6 6", "block abc 6 x", "block Abc 6", "block 1bc 6", "block a-c 6", "block - 6", "block  6",
        "block " + "a" * 61 + " 6", "block abc 6\n", "block\tabc 6", "0 prevote 0 0 abc -", "block abc \u0666",
    )

    def test_a_head_line(self):
        lines = lines_of(PLAIN)
        for wrong in self.wrong_heads:
            for at in (0, 7, 14):
                self.assert_bad(lines[:at] + [wrong] + lines[at + 1:], at)
                self.assert_reads(lines[:at] + [wrong], PLAIN[:at // 7])

    def test_a_head_line_with_a_long_block_and_a_long_number(self):
        block = "a" * 60
        entries = [entry(block, 0), entry("b", 1)]
        self.assert_reads(lines_of(entries), entries)
        self.assert_reads(lines_of(PLAIN) + ["block abc 999999999", "x", "y"], PLAIN)
        self.assert_bad(lines_of(PLAIN) + ["block abc 1000000000", "x", "y"], 21)

    def test_the_line_of_a_letter(self):
        lines = lines_of(PLAIN)
        for at in range(len(lines) - 1):
            if at % 7:
                near = (lines[at] + " ", " " + lines[at], "0 prevote 0 0 abc", "0 vote 0 0 abc", "block abc 6")
                for wrong in ("", "x") + near:
                    self.assert_bad(lines[:at] + [wrong] + lines[at + 1:], at)
                    self.assert_bad(lines[:at] + [wrong, "", ""] + lines[at + 1:], at)

    def test_the_first_line_that_cannot_be_read(self):
        lines = lines_of(PLAIN)
        for first in range(len(lines) - 1):
            torn = list(lines)
            for at in range(first, len(lines), 3):
                torn[at] = "wrong line"
            self.assert_bad(torn, first)

    def test_a_paper_that_does_not_show_its_block(self):
        for paper in ([], commit([0, 1], 0, "d", height=1), commit([0, 1, 2], 0, "c", height=1), PLAIN[0][1]):
            entries = [PLAIN[0], ("d", paper), PLAIN[2]]
            self.assert_bad(lines_of(entries), 7)
            self.assert_bad(lines_of([("d", paper)] + PLAIN[1:]), 0)
            self.assert_bad(lines_of(entries)[:9 + len(paper)], 7)
            self.assert_reads(lines_of(entries)[:8 + len(paper)], PLAIN[:1])
            self.assert_bad(lines_of([PLAIN[0], ("d", paper)]) + [""], 7)

    def test_an_entry_without_letters(self):
        self.assert_bad(["block a 0", "block b 0"], 0)
        self.assert_bad(["block a 0", ""], 0)
        self.assert_bad(lines_of(PLAIN) + ["block a 0", "x"], 21)

    def test_an_entry_that_comes_twice(self):
        self.assert_bad(lines_of([PLAIN[0], PLAIN[0], PLAIN[1]]), 7)
        self.assert_reads(lines_of([PLAIN[0], PLAIN[0]]), PLAIN[:1])

    def test_entries_in_a_wrong_order(self):
        self.assert_bad(lines_of(PLAIN[1:]), 0)
        self.assert_reads(lines_of(PLAIN[1:2]), [])

    def test_a_number_that_is_too_small_or_too_large(self):
        lines = lines_of(PLAIN)
        self.assert_bad(lines[:7] + ["block d 5"] + lines[8:], 7)
        self.assert_bad(lines[:7] + ["block d 7"] + lines[8:], 14)
        self.assert_bad(["block abc 5"] + lines[1:], 0)
        self.assert_reads(lines[:14] + ["block p0q0r5 7"] + lines[15:], PLAIN[:2])


if __name__ == "__main__":
    unittest.main()
