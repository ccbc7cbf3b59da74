"""Points 6, 7 and 8: the lines of letters."""

import itertools
import unittest

from tribunal.errors import BadLine
from tribunal.votes import precommit, prevote, proposal
from tribunal.wire import letter_line, read_letter

EXAMPLES = {
    "2 proposal 0 1 abc": (2, ("proposal", 0, 1, "abc")),
    "3 prevote 0 4 abc 2": (3, ("prevote", 0, 4, "abc", 2)),
    "3 prevote 0 4 - -": (3, ("prevote", 0, 4, None, None)),
    "0 precommit 7 0 abc": (0, ("precommit", 7, 0, "abc")),
}
NUMBERS = (0, 1, 9, 10, 107, 999999999)
BLOCKS = ("a", "z", "a0", "z9", "abc", "prevote", "a" * 60, "b" + "0123456789" * 5 + "zyxwvutsr")
# Words that are integers nowhere in a line; the last five are digits elsewhere.
NO_NUMBERS = (
    "", "-", "+1", "-1", "-0", "00", "01", "007", "1234567890", "1000000000", "0000000000", "a", "1a", "a1", "0x1",
    "1.0", "1_0", "1e3", "\t1", "1\n", "1\r", "\u00a01", "None", "\u0660", "\u0663", "1\u0664", "\u00b2", "\uff11",
)
NO_KINDS = ("", "-", "vote", "Prevote", "PREVOTE", "prevotes", "prevot", "prevote\n", "\tprevote", "0", "abc", "commit")
NO_BLOCKS = (
    "", "0", "1abc", "9", "A", "Abc", "abC", "a-b", "-a", "--", "a_b", "a.b", "a\t", "\ta", "abc\n", "a\u00e4",
    "\u00e4", "a\u0663", "a\u00b2", "\u0430", "a" * 61, "b" * 100, "a\u00a0b", "a\x00",
)
NO_LEANS = NO_NUMBERS[:1] + NO_NUMBERS[2:]


def some_letters():
    for sender, height, turn in itertools.product(NUMBERS, repeat=3):
        for block in BLOCKS:
            yield (sender, proposal(height, turn, block))
        for block in BLOCKS + (None,):
            yield (sender, precommit(height, turn, block))
            for lean in (None,) + tuple(lean for lean in NUMBERS + (999999998,) if lean < turn):
                yield (sender, prevote(height, turn, block, lean))


class Writing(unittest.TestCase):
    """Points 6 and 7."""

    def test_the_examples_of_the_document(self):
        for line, letter in EXAMPLES.items():
            self.assertEqual(letter_line(letter), line)

    def test_none_is_a_dash(self):
        self.assertEqual(letter_line((1, prevote(2, 3, None, 0))), "1 prevote 2 3 - 0")
        self.assertEqual(letter_line((1, prevote(2, 3, "b", None))), "1 prevote 2 3 b -")
        self.assertEqual(letter_line((1, precommit(2, 3, None))), "1 precommit 2 3 -")

    def test_large_numbers_and_long_blocks(self):
        most = 999999999
        line = f"{most} prevote {most} {most} {'a' * 60} {most - 1}"
        self.assertEqual(letter_line((most, prevote(most, most, "a" * 60, most - 1))), line)

    def test_a_limit_is_not_checked(self):
        line = f"1000000000000 precommit 1000000000 0 {'a' * 61}"
        self.assertEqual(letter_line((10 ** 12, precommit(10 ** 9, 0, "a" * 61))), line)
        self.assertEqual(letter_line((0, prevote(0, 1, "a", 1))), "0 prevote 0 1 a 1")


class Reading(unittest.TestCase):
    """Points 7 and 8."""

    def assert_same(self, read, letter):
        self.assertEqual(read, letter)
        self.assertIs(type(read), tuple)
        self.assertIs(type(read[1]), tuple)
        self.assertEqual([type(part) for part in read[1]], [type(part) for part in letter[1]])
        self.assertIs(type(read[0]), int)

    def test_the_examples_of_the_document(self):
        for line, letter in EXAMPLES.items():
            self.assert_same(read_letter(line), letter)

    def test_each_letter_is_read_as_it_was_written(self):
        many = 0
        for letter in some_letters():
            self.assert_same(read_letter(letter_line(letter)), letter)
            many += 1
        self.assertGreater(many, 5000)

    def test_each_line_that_is_read_is_the_line_of_its_letter(self):
        words = ("0", "1", "-", "a", "01", "", "prevote", "precommit", "proposal")
        read = 0
        for many in range(4, 7):
            for rest in itertools.product(words, repeat=many - 2):
                for kind in ("prevote", "precommit", "proposal"):
                    line = " ".join(("0", kind) + rest)
                    try:
                        letter = read_letter(line)
                    except BadLine:
                        continue
                    read += 1
                    self.assertEqual(letter_line(letter), line)
        # Heights and turns 0 and 1, four words that are blocks; a lean is less than its turn.
        self.assertEqual(read, 4 * 4 + 4 * 5 + 4 * 5 + 2 * 5)


class Refusing(unittest.TestCase):
    """Point 8."""

    def assert_refused(self, line, at):
        with self.assertRaises(BadLine) as caught:
            read_letter(line)
        self.assertEqual(caught.exception.at, at, line)

    def assert_words_refused(self, words, at):
        self.assert_refused(" ".join(words), at)

    def right_lines(self):
        return [
            ["2", "proposal", "0", "1", "abc"], ["3", "prevote", "0", "4", "abc", "2"],
            ["3", "prevote", "0", "4", "-", "-"], ["0", "precommit", "7", "0", "abc"],
            ["0", "precommit", "7", "0", "-"],
        ]

    def places(self, words):
        """For each place of a line, the words that do not fit there."""
        kind = words[1]
        no_blocks = NO_BLOCKS + (("-",) if kind == "proposal" else ())
        wrong = [NO_NUMBERS, NO_KINDS, NO_NUMBERS, NO_NUMBERS, no_blocks]
        if kind == "prevote":
            wrong.append(NO_LEANS + (words[3], str(int(words[3]) + 1), "999999999"))
        return wrong

    def test_a_wrong_word_at_each_place(self):
        for words in self.right_lines():
            for at, wrong in enumerate(self.places(words)):
                for word in wrong:
                    self.assert_words_refused(words[:at] + [word] + words[at + 1:], at)

    def test_the_first_wrong_word_counts(self):
        for words in self.right_lines():
            places = self.places(words)
            for first in range(len(places)):
                for later in range(first + 1, len(places)):
                    changed = list(words)
                    changed[first] = places[first][-1]
                    changed[later] = places[later][0]
                    self.assert_words_refused(changed, first)
                    self.assert_words_refused(changed + ["more"], first)
                    self.assert_words_refused(changed[:first + 1], first)

    def test_missing_words(self):
        for words in self.right_lines():
            for many in range(1, len(words)):
                self.assert_words_refused(words[:many], many)

    def test_further_words(self):
        for words in self.right_lines():
            for more in (["0"], [""], ["-"], ["abc", "d"], ["", ""]):
                self.assert_words_refused(words + more, len(words))
        self.assert_refused("2 proposal 0 1 abc -", 5)
        self.assert_refused("0 precommit 7 1 abc 0", 5)

    def test_the_empty_line_and_lines_of_spaces(self):
        for line in ("", " ", "  ", "     "):
            self.assert_refused(line, 0)

    def test_a_space_too_many(self):
        for words in self.right_lines():
            self.assert_refused(" " + " ".join(words), 0)
            self.assert_refused(" ".join(words) + " ", len(words))
            for at in range(1, len(words)):
                self.assert_words_refused(words[:at] + [""] + words[at:], at)

    def test_other_white_space_separates_nothing(self):
        for space in ("\t", "\n", "\r", "\v", "\f", "\x1c", "\x85", "\u00a0", "\u2003", "\u2028", "\u3000"):
            for words in self.right_lines():
                last = len(words) - 1
                self.assert_refused(space.join(words), 0)
                self.assert_refused(space + " ".join(words), 0)
                self.assert_refused(" ".join(words) + space, last)
                for at in range(last):
                    self.assert_refused(" ".join(words[:at + 1]) + space + " ".join(words[at + 1:]), at)

    def test_a_lean_is_less_than_its_turn(self):
        self.assert_refused("0 prevote 0 0 a 0", 5)
        self.assert_refused("0 prevote 0 4 a 4", 5)
        self.assert_refused("0 prevote 0 4 - 5", 5)
        self.assert_refused("0 prevote 9 4 a 9", 5)
        self.assertEqual(read_letter("0 prevote 0 4 - 3"), (0, ("prevote", 0, 4, None, 3)))
        self.assertEqual(read_letter("0 prevote 0 10 a 9"), (0, ("prevote", 0, 10, "a", 9)))

    def test_nine_digits_and_ten(self):
        self.assertEqual(read_letter("999999999 precommit 999999999 999999999 a")[0], 999999999)
        for at in (0, 2, 3):
            words = ["0", "precommit", "0", "0", "a"]
            words[at] = "1000000000"
            self.assert_words_refused(words, at)
        self.assert_refused("0 prevote 0 999999999 a 1000000000", 5)

    def test_blocks_of_sixty_characters_and_of_more(self):
        for kind, more in (("proposal", ""), ("precommit", ""), ("prevote", " -")):
            line = f"0 {kind} 0 0 {'x' * 60}{more}"
            self.assertEqual(read_letter(line)[1][3], "x" * 60)
            self.assert_refused(f"0 {kind} 0 0 {'x' * 61}{more}", 4)

    def test_each_other_character_is_refused_in_a_block(self):
        allowed = set("abcdefghijklmnopqrstuvwxyz0123456789")
        for sign in map(chr, range(33, 1500)):
            line = f"0 precommit 0 0 a{sign}a"
            if sign in allowed:
                self.assertEqual(read_letter(line)[1][3], f"a{sign}a")
            else:
                self.assert_refused(line, 4)


if __name__ == "__main__":
    unittest.main()
