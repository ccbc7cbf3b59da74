"""Point 12: books."""

import itertools
import unittest

from letters import commit, listed_certificate, listed_commit, mixed_letters, orders, precommits, prevotes
from tribunal.book import Book
from tribunal.committee import Committee
from tribunal.plain import certified, committed
from tribunal.votes import precommit, prevote, proposal

FOUR = Committee([1, 1, 1, 1])
BLOCKS = ("a", "b", None)


def filled(letters, committee=FOUR, height=0):
    book = Book(committee, height)
    for letter in letters:
        book.add(letter)
    return book


class Keeping(unittest.TestCase):
    def test_a_new_book_is_empty(self):
        book = Book(FOUR, 3)
        self.assertEqual((book.letters(), book.certificates, book.commits), ([], [], []))
        self.assertIs(type(book.certificates), list)
        self.assertIs(type(book.commits), list)
        self.assertIs(book.has_certificate(0, "a"), False)
        self.assertIsNone(book.latest("a", 9))

    def test_votes_of_members_are_kept_in_order(self):
        book = Book(FOUR, 2)
        letters = [
            (3, prevote(2, 0, "a", None)), (0, precommit(2, 5, None)), (1, prevote(2, 4, None, 3)),
            (3, prevote(2, 0, "b", None)), (2, precommit(2, 0, "a")), (1, prevote(2, 4, None, None)),
        ]
        for many, letter in enumerate(letters):
            self.assertIs(book.add(letter), True)
            self.assertEqual(book.letters(), letters[:many + 1])

    def test_a_repeated_letter_is_not_kept_again(self):
        book = Book(FOUR, 0)
        one, other = (0, prevote(0, 0, "a", None)), (1, prevote(0, 0, "a", None))
        added = [book.add(letter) for letter in (one, other, one, other, one)]
        self.assertEqual(added, [True, True, False, False, False])
        self.assertEqual(book.letters(), [one, other])

    def test_what_does_not_belong_is_not_kept(self):
        book = filled(prevotes([0, 1], 0, "a"))
        for letter in (
            (2, proposal(0, 0, "a")), (2, prevote(1, 0, "a", None)), (2, precommit(1, 0, "a")),
            (4, prevote(0, 0, "a", None)), (4, precommit(0, 0, "a")), (16, prevote(0, 0, "a", None)),
            (10 ** 9, prevote(0, 0, "a", None)), (4, proposal(0, 0, "a")),
        ):
            self.assertIs(book.add(letter), False)
            self.assertIs(book.add(letter), False)
            self.assertEqual(book.letters(), prevotes([0, 1], 0, "a"))
            self.assertEqual((book.certificates, book.commits), ([], []))

    def test_votes_for_a_lower_height_are_not_kept(self):
        book = Book(FOUR, 5)
        added = [book.add((0, prevote(height, 0, "a", None))) for height in (4, 5, 6, 0)]
        self.assertEqual(added, [False, True, False, False])

    def test_the_list_of_letters_is_the_callers_own(self):
        book = filled(commit([0, 1, 2], 0, "a"))
        given = book.letters()
        given.clear()
        book.letters().append((3, prevote(0, 0, "a", None)))
        self.assertEqual(book.letters(), commit([0, 1, 2], 0, "a"))
        self.assertIs(book.add((3, prevote(0, 0, "a", None))), True)

    def test_two_books_are_apart(self):
        one, other = Book(FOUR, 0), Book(FOUR, 0)
        for letter in commit([0, 1, 2], 0, "a"):
            one.add(letter)
        self.assertEqual((other.letters(), other.certificates, other.commits), ([], [], []))


class Finding(unittest.TestCase):
    def assert_right(self, book, committee, height, before):
        """What is found is what plain says, each once, and what was found earlier stands first."""
        letters = book.letters()
        pairs = [(turn, block) for turn in range(8) for block in BLOCKS]
        certificates = [pair for pair in pairs if certified(committee, letters, height, *pair)]
        commits = [pair for pair in pairs if committed(committee, letters, height, *pair)]
        for found, expected, earlier in (
            (book.certificates, certificates, before[0]), (book.commits, commits, before[1]),
        ):
            self.assertEqual(found[:len(earlier)], earlier)
            new = found[len(earlier):]
            self.assertEqual([turn for turn, _ in new], sorted(turn for turn, _ in new))
            self.assertEqual(len(found), len(set(found)))
            self.assertEqual(set(found), set(expected))
            self.assertTrue(all(type(pair) is tuple for pair in found))
        for turn, block in pairs:
            self.assertIs(book.has_certificate(turn, block), (turn, block) in certificates)
            earlier_turns = [found for found, of in certificates if of == block and found < turn]
            self.assertEqual(book.latest(block, turn), max(earlier_turns) if earlier_turns else None)

    def assert_right_after_each(self, letters, committee=FOUR, height=0):
        book = Book(committee, height)
        for letter in letters:
            before = (list(book.certificates), list(book.commits))
            kept = len(book.letters())
            new = book.add(letter)
            self.assertEqual(len(book.letters()), kept + new)
            self.assert_right(book, committee, height, before)
        return book

    def test_a_certificate_and_a_commit(self):
        book = self.assert_right_after_each(commit([0, 1, 2], 1, "a") + commit([3], 1, "a"))
        self.assertEqual((book.certificates, book.commits), ([(1, "a")], [(1, "a")]))

    def test_precommits_that_come_before_the_certificate(self):
        letters = precommits([0, 1, 2], 1, "a") + prevotes([0, 1], 1, "a")
        book = filled(letters)
        self.assertEqual((book.certificates, book.commits), ([], []))
        book.add((3, prevote(0, 1, "a", None)))
        self.assertEqual((book.certificates, book.commits), ([(1, "a")], [(1, "a")]))

    def test_one_late_prevote_completes_several_turns(self):
        leaning = prevotes([1, 2, 3], 2, "a", 0) + prevotes([0, 1, 2], 5, "a", 2) + prevotes([0, 1, 2], 3, "a", 0)
        precommitted = precommits([0, 1, 2], 5, "a") + precommits([1, 2, 3], 2, "a") + precommits([0, 1, 3], 3, "a")
        for letters in orders(leaning + precommitted + prevotes([0, 1], 0, "a"), 10, seed=2):
            book = self.assert_right_after_each(letters)
            self.assertEqual((book.certificates, book.commits), ([], []))
            self.assertIs(book.add((3, prevote(0, 0, "a", None))), True)
            self.assertEqual(book.certificates, [(0, "a"), (2, "a"), (3, "a"), (5, "a")])
            self.assertEqual(book.commits, [(2, "a"), (3, "a"), (5, "a")])

    def test_what_was_found_earlier_stands_first(self):
        book = filled(commit([0, 1, 2], 4, "a"))
        for letter in commit([0, 1, 2], 1, "b") + commit([1, 2, 3], 0, "a"):
            book.add(letter)
        self.assertEqual(book.certificates, [(4, "a"), (1, "b"), (0, "a")])
        self.assertEqual(book.commits, [(4, "a"), (1, "b"), (0, "a")])

    def test_a_found_certificate_stays_among_later_ones(self):
        book = filled(prevotes([0, 1, 2], 3, "a") + prevotes([0, 1, 2], 5, "a", 1) + prevotes([0, 1], 1, "a"))
        self.assertEqual(book.certificates, [(3, "a")])
        book.add((2, prevote(0, 1, "a", None)))
        self.assertEqual(book.certificates, [(3, "a"), (1, "a"), (5, "a")])

    def test_votes_for_none_show_nothing(self):
        book = self.assert_right_after_each(commit([0, 1, 2, 3], 0, None) + prevotes([0, 1, 2], 1, "a", 0))
        self.assertEqual((book.certificates, book.commits), ([], []))
        self.assertIs(book.has_certificate(0, None), False)
        self.assertIsNone(book.latest(None, 5))

    def test_letters_of_others_show_nothing(self):
        book = filled(prevotes([0, 1, 4, 5], 0, "a") + prevotes([2, 3], 0, "a", height=1))
        self.assertEqual(book.certificates, [])

    def test_after_each_letter_in_all_orders_of_few(self):
        letters = prevotes([0, 1], 0, "a") + prevotes([0, 1], 1, "a", 0) + precommits([0, 1], 1, "a")
        two = Committee([1, 1])
        for ordered in itertools.permutations(letters):
            book = self.assert_right_after_each(ordered, two)
            self.assertEqual((sorted(book.certificates), book.commits), ([(0, "a"), (1, "a")], [(1, "a")]))

    def test_after_each_letter_in_many_orders(self):
        chain = commit([0, 1, 2], 0, "a") + commit([1, 2, 3], 2, "a", 0) + commit([0, 1, 3], 4, "a", 2)
        fork = commit([0, 2, 3], 1, "b") + commit([0, 1, 2], 3, "b", 1) + prevotes([2], 4, "a")
        for ordered in orders(chain + fork, 60, seed=3):
            book = self.assert_right_after_each(ordered)
            self.assertEqual(len(book.certificates), 5)
            self.assertEqual(len(book.commits), 5)

    def test_after_each_of_mixed_letters(self):
        for seed in range(40):
            committee = (FOUR, Committee([3, 1, 2, 2]))[seed % 2]
            self.assert_right_after_each(mixed_letters(seed, 130, turns=4, heights=(0, 0, 0, 1)), committee)

    def test_as_the_document_says(self):
        commits = 0
        for seed in range(100, 140):
            letters = mixed_letters(seed, 130, turns=4)
            book = filled(letters)
            for turn, block in itertools.product(range(5), ("a", "b")):
                self.assertIs((turn, block) in book.certificates, listed_certificate(FOUR, letters, 0, turn, block))
                self.assertIs((turn, block) in book.commits, listed_commit(FOUR, letters, 0, turn, block))
            commits += len(book.commits)
        self.assertGreater(commits, 20)


class Latest(unittest.TestCase):
    def test_only_earlier_turns_and_only_the_block(self):
        book = filled(prevotes([0, 1, 2], 5, "a") + prevotes([0, 1, 2], 1, "a") + prevotes([0, 1, 2], 3, "b"))
        self.assertEqual([book.latest("a", turn) for turn in range(8)], [None, None, 1, 1, 1, 1, 5, 5])
        self.assertEqual([book.latest("b", turn) for turn in range(8)], [None, None, None, None, 3, 3, 3, 3])
        self.assertIsNone(book.latest("c", 8))
        self.assertEqual(book.latest("a", 10 ** 12), 5)

    def test_turn_0_is_a_turn(self):
        book = filled(prevotes([0, 1, 2], 0, "a"))
        self.assertEqual(book.latest("a", 1), 0)
        self.assertIsNone(book.latest("a", 0))

    def test_has_certificate(self):
        book = filled(prevotes([0, 1, 2], 5, "a"))
        self.assertIs(book.has_certificate(5, "a"), True)
        self.assertIs(book.has_certificate(5, "b"), False)
        self.assertIs(book.has_certificate(4, "a"), False)


if __name__ == "__main__":
    unittest.main()
