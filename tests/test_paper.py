"""Points 20 and 23: papers, and the charges of two papers."""

import unittest

from letters import commit, listed_commit, mixed_letters, orders, precommits, prevotes
from tribunal.book import Book
from tribunal.committee import Committee
from tribunal.court import Charge, charges, holds
from tribunal.errors import BadPaper
from tribunal.paper import accuse, commit_paper, shown_turn, shows
from tribunal.votes import prevote, proposal

FOUR = Committee([1, 1, 1, 1])


def filled(letters, committee=FOUR, height=0):
    book = Book(committee, height)
    for letter in letters:
        book.add(letter)
    return book


def listed_paper(book, block):
    """Point 20, step by step."""
    committee, letters = book.committee, book.letters()
    turn = min(turn for turn, found in book.commits if found == block)
    precommit = ("precommit", book.height, turn, block)
    paper = first_quorum(committee, [letter for letter in letters if letter[1] == precommit])
    needed = {turn}
    for now in range(turn, -1, -1):
        if now in needed:
            votes = [
                letter for letter in letters if letter[1][:4] == ("prevote", book.height, now, block)
                and (letter[1][4] is None or letter[1][4] < now and (letter[1][4], block) in book.certificates)
            ]
            taken = first_quorum(committee, votes)
            needed |= {vote[4] for _, vote in taken} - {None}
            paper = paper + taken
    return paper


def first_quorum(committee, letters):
    taken = []
    for letter in letters:
        members = [sender for sender, _ in taken]
        if not committee.is_quorum(members) and letter[0] not in members:
            taken.append(letter)
    return taken


class Making(unittest.TestCase):
    """Point 20: the paper that is made from a book."""

    def assert_paper(self, book, block, expected):
        before = (book.letters(), list(book.certificates), list(book.commits))
        paper = commit_paper(book, block)
        self.assertIs(type(paper), list)
        self.assertEqual(paper, expected)
        self.assertEqual((book.letters(), book.certificates, book.commits), before)
        self.assert_right(book, block, paper)

    def assert_right(self, book, block, paper):
        kept = book.letters()
        self.assertTrue(all(letter in kept for letter in paper))
        self.assertEqual(len(paper), len(set(paper)))
        self.assertIs(shows(book.committee, book.height, block, paper), True)
        last = max(at for at, (_, vote) in enumerate(paper) if vote[0] == "precommit")
        self.assertTrue(all(vote[0] == "precommit" for _, vote in paper[:last]))
        self.assertIs(shows(book.committee, book.height, block, paper[:last] + paper[last + 1:]), False)
        self.assertIs(shows(book.committee, book.height, block, paper[:-1]), False)

    def assert_bad(self, book, block):
        before = (book.letters(), list(book.certificates), list(book.commits))
        with self.assertRaises(BadPaper):
            commit_paper(book, block)
        self.assertEqual((book.letters(), book.certificates, book.commits), before)

    def test_precommits_stand_before_prevotes(self):
        book = filled(commit([0, 1, 2], 0, "a"))
        self.assert_paper(book, "a", precommits([0, 1, 2], 0, "a") + prevotes([0, 1, 2], 0, "a"))

    def test_no_more_than_a_quorum_in_the_order_of_the_book(self):
        book = filled(prevotes([3, 1, 0, 2], 0, "a") + precommits([2, 3, 0, 1], 0, "a"))
        self.assert_paper(book, "a", precommits([2, 3, 0], 0, "a") + prevotes([3, 1, 0], 0, "a"))

    def test_the_weights_decide_how_many(self):
        heavy = Committee([1, 1, 5])
        book = filled(commit([0, 1, 2], 0, "a"), heavy)
        self.assert_paper(book, "a", precommits([0, 1, 2], 0, "a") + prevotes([0, 1, 2], 0, "a"))
        book = filled(commit([2, 0, 1], 0, "a"), heavy)
        self.assert_paper(book, "a", precommits([2], 0, "a") + prevotes([2], 0, "a"))
        book = filled(prevotes([0, 2, 1], 0, "a") + precommits([1, 2], 0, "a"), heavy)
        self.assert_paper(book, "a", precommits([1, 2], 0, "a") + prevotes([0, 2], 0, "a"))

    def test_the_earliest_turn_that_commits_the_block(self):
        commits = commit([0, 1, 2], 4, "a") + commit([1, 2, 3], 2, "a") + commit([0, 1, 2], 7, "a")
        for letters in orders(commits, 20, seed=6):
            book = filled(letters)
            paper = commit_paper(book, "a")
            self.assertEqual({vote[2] for _, vote in paper}, {2})
            self.assert_paper(book, "a", listed_paper(book, "a"))

    def test_a_certificate_in_an_earlier_turn_is_no_commit(self):
        book = filled(prevotes([0, 1, 2], 1, "a") + commit([0, 1, 2], 3, "a"))
        self.assert_paper(book, "a", precommits([0, 1, 2], 3, "a") + prevotes([0, 1, 2], 3, "a"))

    def test_a_chain_of_three_leaning_turns(self):
        chain = prevotes([0, 1, 2], 0, "a") + prevotes([1, 2, 3], 2, "a", 0) + commit([0, 2, 3], 5, "a", 2)
        paper = precommits([0, 2, 3], 5, "a") + prevotes([0, 2, 3], 5, "a", 2)
        paper = paper + prevotes([1, 2, 3], 2, "a", 0) + prevotes([0, 1, 2], 0, "a")
        self.assert_paper(filled(chain), "a", paper)
        for letters in orders(chain, 30, seed=7):
            book = filled(letters)
            self.assert_paper(book, "a", listed_paper(book, "a"))

    def test_leans_on_several_turns_are_taken_later_turns_first(self):
        leans = prevotes([0], 6, "a", 1) + prevotes([1], 6, "a", 4) + prevotes([2], 6, "a", 2)
        base = prevotes([0, 1, 2], 1, "a") + prevotes([0, 1, 3], 2, "a", 1) + prevotes([1, 2, 3], 4, "a")
        book = filled(base + leans + precommits([0, 1, 2], 6, "a"))
        paper = precommits([0, 1, 2], 6, "a") + leans + prevotes([1, 2, 3], 4, "a")
        paper = paper + prevotes([0, 1, 3], 2, "a", 1) + prevotes([0, 1, 2], 1, "a")
        self.assert_paper(book, "a", paper)

    def test_only_turns_on_which_a_taken_prevote_leans(self):
        book = filled(
            prevotes([0, 1, 2], 1, "a") + prevotes([0, 1, 2], 4, "a") + prevotes([3], 4, "a", 1)
            + precommits([0, 1, 2, 3], 4, "a")
        )
        self.assert_paper(book, "a", precommits([0, 1, 2], 4, "a") + prevotes([0, 1, 2], 4, "a"))
        book = filled(
            prevotes([0, 1, 2], 1, "a") + prevotes([3], 4, "a", 1) + prevotes([0, 1, 2], 4, "a")
            + precommits([0, 1, 2, 3], 4, "a")
        )
        paper = precommits([0, 1, 2], 4, "a") + prevotes([3], 4, "a", 1) + prevotes([0, 1], 4, "a")
        self.assert_paper(book, "a", paper + prevotes([0, 1, 2], 1, "a"))

    def test_a_member_with_two_leans_is_taken_once_with_its_first_one(self):
        base = prevotes([0, 1, 2], 0, "a") + prevotes([0, 1, 2], 1, "a") + precommits([0, 1, 2], 3, "a")
        book = filled(base + prevotes([0], 3, "a", 1) + prevotes([0], 3, "a", 0) + prevotes([1, 2], 3, "a"))
        paper = precommits([0, 1, 2], 3, "a") + prevotes([0], 3, "a", 1) + prevotes([1, 2], 3, "a")
        self.assert_paper(book, "a", paper + prevotes([0, 1, 2], 1, "a"))
        book = filled(base + prevotes([0], 3, "a") + prevotes([0], 3, "a", 1) + prevotes([1, 2], 3, "a"))
        self.assert_paper(book, "a", precommits([0, 1, 2], 3, "a") + prevotes([0, 1, 2], 3, "a"))

    def test_prevotes_that_do_not_count_are_not_taken(self):
        wrong = prevotes([0, 1, 2], 3, "a", 1) + prevotes([0, 1, 2], 3, "a", 3) + prevotes([0, 1, 2], 3, "a", 5)
        others = prevotes([0, 1, 2], 3, "b") + prevotes([0, 1, 2], 3, None) + prevotes([0, 1, 2], 1, "b")
        later = prevotes([0, 1, 2], 5, "a")
        for letters in orders(wrong + others + later + commit([0, 1, 2, 3], 3, "a"), 20, seed=8):
            book = filled(letters)
            paper = commit_paper(book, "a")
            self.assertTrue(all(vote[2:] in ((3, "a"), (3, "a", None)) for _, vote in paper))
            self.assert_paper(book, "a", listed_paper(book, "a"))

    def test_other_precommits_are_not_taken(self):
        letters = precommits([0, 1, 2], 2, "a") + precommits([0, 1, 2], 1, "b") + precommits([0, 1, 2], 1, None)
        book = filled(letters + commit([3, 2, 1], 1, "a"))
        self.assert_paper(book, "a", precommits([3, 2, 1], 1, "a") + prevotes([3, 2, 1], 1, "a"))

    def test_another_height(self):
        book = filled(commit([0, 1, 2], 0, "a", height=9), height=9)
        self.assert_paper(book, "a", precommits([0, 1, 2], 0, "a", height=9) + prevotes([0, 1, 2], 0, "a", height=9))

    def test_one_book_that_commits_two_blocks(self):
        book = filled(commit([0, 1, 2], 1, "a") + commit([1, 2, 3], 0, "b"))
        self.assert_paper(book, "a", precommits([0, 1, 2], 1, "a") + prevotes([0, 1, 2], 1, "a"))
        self.assert_paper(book, "b", precommits([1, 2, 3], 0, "b") + prevotes([1, 2, 3], 0, "b"))

    def test_a_block_that_the_book_does_not_commit(self):
        self.assert_bad(filled([]), "a")
        self.assert_bad(filled(commit([0, 1, 2], 0, "a")), "b")
        self.assert_bad(filled(prevotes([0, 1, 2, 3], 0, "a")), "a")
        self.assert_bad(filled(prevotes([0, 1, 2, 3], 0, "a") + precommits([0, 1], 0, "a")), "a")
        self.assert_bad(filled(prevotes([0, 1, 2, 3], 0, "a") + precommits([0, 1, 2, 3], 1, "a")), "a")
        self.assert_bad(filled(precommits([0, 1, 2, 3], 0, "a")), "a")
        self.assert_bad(filled(commit([0, 1, 2, 3], 0, None)), None)

    def test_many_books(self):
        made = 0
        for seed in range(300):
            committee = (FOUR, Committee([3, 1, 2, 2]), Committee([1, 1, 1]))[seed % 3]
            book = filled(mixed_letters(seed, 150, turns=4), committee)
            for block in ("a", "b"):
                if any(found == block for _, found in book.commits):
                    made += 1
                    self.assert_paper(book, block, listed_paper(book, block))
                else:
                    self.assert_bad(book, block)
        self.assertGreater(made, 60)


class Showing(unittest.TestCase):
    """Point 20: what a paper is."""

    def assert_turn(self, expected, letters, block, height=0, committee=FOUR):
        for ordered in orders(letters, 5, seed=9):
            before = list(ordered)
            self.assertEqual(shown_turn(committee, height, block, ordered), expected)
            self.assertIs(shows(committee, height, block, ordered), expected is not None)
            self.assertEqual(ordered, before)

    def test_the_empty_list(self):
        self.assert_turn(None, [], "a")
        self.assert_turn(None, [], "a", height=3)

    def test_the_turn_of_a_commit(self):
        for turn in (0, 1, 12, 13, 40, 10 ** 9):
            self.assert_turn(turn, commit([0, 1, 2], turn, "a"), "a")
            self.assert_turn(turn, commit([0, 1, 3], turn, "a", height=2), "a", height=2)

    def test_the_earliest_turn(self):
        letters = commit([0, 1, 2], 5, "a") + commit([1, 2, 3], 2, "a") + commit([1, 2, 3], 0, "b")
        self.assert_turn(2, letters, "a")
        self.assert_turn(0, letters, "b")
        self.assert_turn(None, letters, "c")
        self.assert_turn(20, commit([0, 1, 2], 90, "a") + commit([1, 2, 3], 20, "a"), "a")

    def test_a_certificate_alone_or_precommits_alone(self):
        self.assert_turn(None, prevotes([0, 1, 2, 3], 0, "a"), "a")
        self.assert_turn(None, precommits([0, 1, 2, 3], 0, "a"), "a")
        apart = prevotes([0, 1, 2, 3], 0, "a") + precommits([0, 1, 2, 3], 1, "a")
        self.assert_turn(None, apart, "a")
        self.assert_turn(3, apart + commit([0, 1, 2], 3, "a"), "a")

    def test_another_height_or_another_committee(self):
        letters = commit([0, 1, 2], 0, "a")
        self.assert_turn(None, letters, "a", height=1)
        self.assert_turn(None, letters, "a", committee=Committee([1, 1, 1, 2]))
        self.assert_turn(0, letters, "a", committee=Committee([1, 1, 1]))
        self.assert_turn(None, commit([1, 2, 3], 0, "a"), "a", committee=Committee([1, 1, 1]))

    def test_a_chain_far_behind_turn_12(self):
        chain = prevotes([0, 1, 2], 0, "a")
        for turn in range(1, 60):
            chain = chain + prevotes([turn % 4, (turn + 1) % 4, (turn + 2) % 4], turn, "a", turn - 1)
        self.assert_turn(59, chain + precommits([0, 1, 2], 59, "a"), "a")
        self.assert_turn(None, chain[1:] + precommits([0, 1, 2], 59, "a"), "a")
        self.assert_turn(30, chain + precommits([0, 1, 2], 59, "a") + precommits([0, 1, 2], 30, "a"), "a")

    def test_members_that_lean_on_many_turns(self):
        letters = []
        for turn in range(25):
            for lean in (None, *range(turn)):
                letters = letters + prevotes([0, 1, 2, 3], turn, "a", lean)
        self.assert_turn(24, letters + precommits([0, 1, 2], 24, "a"), "a")

    def test_further_letters_do_not_matter(self):
        more = [(0, proposal(0, 0, "a")), (9, prevote(0, 0, "b", None))] + commit([0, 1, 2], 0, "a", height=1)
        self.assert_turn(4, more + commit([0, 1, 2], 4, "a"), "a")

    def test_none_is_not_shown(self):
        self.assert_turn(None, commit([0, 1, 2, 3], 0, None), None)

    def test_as_the_document_says_for_many_letters(self):
        for seed in range(100):
            letters = mixed_letters(seed, 150, turns=3, heights=(0, 0, 0, 1))
            for height, block in ((0, "a"), (0, "b"), (1, "a")):
                turns = [turn for turn in range(4) if listed_commit(FOUR, letters, height, turn, block)]
                self.assert_turn(min(turns, default=None), letters, block, height)


class Accusing(unittest.TestCase):
    """Point 23."""

    def assert_bad(self, one, other, height=0):
        for first, second in ((one, other), (other, one)):
            before = (list(first[1]), list(second[1]))
            with self.assertRaises(BadPaper):
                accuse(FOUR, height, first, second)
            self.assertEqual((first[1], second[1]), before)

    def found(self, one, other, height=0, committee=FOUR):
        before = (list(one[1]), list(other[1]))
        charged = accuse(committee, height, one, other)
        self.assertEqual((one[1], other[1]), before)
        self.assertIs(type(charged), list)
        self.assertTrue(all(isinstance(charge, Charge) and holds(charge) for charge in charged))
        expected = [parts(charge) for charge in charges(committee, one[1] + other[1])]
        self.assertEqual([parts(charge) for charge in charged], expected)
        return [parts(charge) for charge in charged]

    def test_the_letters_of_the_first_paper_stand_first(self):
        one, other = commit([0, 1, 2], 0, "a"), commit([3, 2, 1], 0, "b")
        a, b = {}, {}
        for who in (1, 2):
            a[who], b[who] = (who, prevote(0, 0, "a", None)), (who, prevote(0, 0, "b", None))
        self.assertEqual(self.found(("a", one), ("b", other)), [(1, a[1], b[1]), (2, a[2], b[2])])
        self.assertEqual(self.found(("b", other), ("a", one)), [(1, b[1], a[1]), (2, b[2], a[2])])

    def test_the_order_of_the_letters_in_a_paper_matters(self):
        one = precommits([0, 1, 2], 0, "a") + prevotes([0, 1, 2], 0, "a")
        other = precommits([0, 1, 2], 0, "b") + prevotes([0, 1, 2], 0, "b")
        for who, first, second in self.found(("a", one), ("b", other)):
            self.assertEqual((first, second), (precommits([who], 0, "a")[0], precommits([who], 0, "b")[0]))

    def test_papers_of_different_turns(self):
        one, other = commit([0, 1, 2], 1, "a"), commit([1, 2, 3], 4, "b")
        found = self.found(("a", one), ("b", other))
        self.assertEqual([(who, first[1][0], second[1][0]) for who, first, second in found], [
            (1, "precommit", "prevote"), (2, "precommit", "prevote"),
        ])
        found = self.found(("b", other), ("a", one))
        self.assertEqual([(who, first[1][0], second[1][0]) for who, first, second in found], [
            (1, "prevote", "precommit"), (2, "prevote", "precommit"),
        ])

    def test_papers_that_were_made_from_books_name_a_third(self):
        one = commit_paper(filled(commit([0, 1, 2], 1, "a") + prevotes([3], 0, "b")), "a")
        other = commit_paper(filled(prevotes([1, 2, 3], 0, "b") + commit([3, 2, 0], 2, "b", 0)), "b")
        named = [who for who, _, _ in self.found(("a", one), ("b", other))]
        self.assertEqual(named, [0, 2])
        self.assertIs(FOUR.is_third(named), True)

    def test_a_member_that_broke_the_rules_within_one_paper(self):
        one = commit([0, 1, 2], 0, "a") + [(3, prevote(0, 0, "a", None)), (3, prevote(0, 0, None, None))]
        other = commit([0, 1, 2], 0, "b")
        self.assertEqual([who for who, _, _ in self.found(("a", one), ("b", other))], [0, 1, 2, 3])

    def test_another_height_and_other_weights(self):
        heavy = Committee([1, 5, 1])
        one, other = commit([1], 0, "a", height=6), commit([1, 2], 3, "b", height=6)
        self.assertEqual([who for who, _, _ in self.found(("a", one), ("b", other), 6, heavy)], [1])

    def test_one_of_them_is_not_a_paper(self):
        paper = commit([0, 1, 2], 0, "a")
        for letters in (
            [], prevotes([0, 1, 2], 0, "b"), precommits([0, 1, 2], 0, "b"), commit([0, 1], 0, "b"),
            commit([0, 1, 2], 0, "a"), commit([0, 1, 2], 0, "b", height=1), commit([0, 1, 2], 1, "b", 0),
        ):
            self.assert_bad(("a", paper), ("b", letters))
        self.assert_bad(("a", paper), ("b", commit([1, 2, 3], 0, "b")), height=1)
        self.assert_bad(("a", paper), (None, commit([0, 1, 2], 1, None)))
        self.assert_bad(("a", []), ("b", []))

    def test_one_paper_does_not_stand_for_the_other(self):
        both = commit([0, 1, 2], 0, "a") + commit([0, 1, 2], 0, "b")
        self.assert_bad(("a", both), ("b", []))
        self.assertEqual(len(self.found(("a", both), ("b", both))), 3)

    def test_both_blocks_are_the_same(self):
        self.assert_bad(("a", commit([0, 1, 2], 0, "a")), ("a", commit([1, 2, 3], 0, "a")))
        self.assert_bad(("a", commit([0, 1, 2], 0, "a")), ("a", commit([1, 2, 3], 1, "a")))
        both = commit([0, 1, 2], 0, "a") + commit([0, 1, 2], 0, "b")
        self.assert_bad(("a", both), ("a", both))


def parts(charge):
    return (charge.who, charge.first, charge.second)


if __name__ == "__main__":
    unittest.main()
