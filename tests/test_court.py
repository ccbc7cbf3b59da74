"""Points 21 and 22: charges."""

import itertools
import random
import unittest

from letters import commit, mixed_letters, orders, precommits, prevotes
from tribunal.committee import Committee
from tribunal.court import Charge, charge_of, charges, holds
from tribunal.errors import Refused
from tribunal.journal import Journal, restore
from tribunal.plain import committed
from tribunal.votes import clash, precommit, prevote, proposal

FOUR = Committee([1, 1, 1, 1])


def parts(charge):
    return None if charge is None else (charge.who, charge.first, charge.second)


def listed_charge(letters, who):
    """Point 21, word for word: the places of the two letters, or None."""
    own = [letter for letter in letters if letter[0] == who]
    for second in range(len(own)):
        for first in range(second):
            if clash(own[first][1], own[second][1]):
                return (who, own[first], own[second])
    return None


class Charges(unittest.TestCase):
    """Point 21: what a charge is, and when it holds."""

    def test_the_attributes(self):
        first, second = (2, prevote(0, 0, "a", None)), (3, prevote(0, 0, "b", None))
        charge = Charge(1, first, second)
        self.assertEqual(vars(charge), {"who": 1, "first": first, "second": second})

    def test_a_charge_holds_in_both_orders(self):
        pairs = [
            (prevote(0, 0, "a", None), prevote(0, 0, "b", None)), (prevote(0, 0, "a", None), prevote(0, 0, None, None)),
            (precommit(1, 2, "a"), precommit(1, 2, None)), (precommit(1, 2, "a"), prevote(1, 4, "b", 1)),
        ]
        for who in (0, 3, 99):
            for one, other in pairs:
                self.assertIs(holds(Charge(who, (who, one), (who, other))), True)
                self.assertIs(holds(Charge(who, (who, other), (who, one))), True)

    def test_both_letters_are_the_replicas_own(self):
        one, other = prevote(0, 0, "a", None), prevote(0, 0, "b", None)
        for who, first, second in itertools.product(range(3), repeat=3):
            self.assertIs(holds(Charge(who, (first, one), (second, other))), who == first == second)

    def test_the_statements_clash(self):
        for one, other in (
            (prevote(0, 0, "a", None), prevote(0, 0, "a", None)), (prevote(0, 0, "a", None), prevote(0, 1, "b", None)),
            (precommit(0, 0, "a"), prevote(0, 1, "b", 0)), (proposal(0, 0, "a"), proposal(0, 0, "b")),
            (precommit(0, 0, "a"), precommit(1, 0, "b")), (precommit(0, 0, None), prevote(0, 1, "b", None)),
        ):
            self.assertIs(holds(Charge(1, (1, one), (1, other))), False)
            self.assertIs(holds(Charge(1, (1, other), (1, one))), False)


class Finding(unittest.TestCase):
    """Point 21: which charge is found."""

    def assert_found(self, letters, who, first, second):
        before = list(letters)
        found = charge_of(letters, who)
        self.assertIsInstance(found, Charge)
        self.assertEqual(parts(found), (who, first, second))
        self.assertIs(holds(found), True)
        self.assertEqual(letters, before)

    def assert_none(self, letters, who):
        before = list(letters)
        self.assertIsNone(charge_of(letters, who))
        self.assertEqual(letters, before)

    def test_two_letters(self):
        a, b = (2, prevote(0, 0, "a", None)), (2, prevote(0, 0, "b", None))
        self.assert_found([a, b], 2, a, b)
        self.assert_found([b, a], 2, b, a)
        self.assert_none([a], 2)
        self.assert_none([], 2)
        self.assert_none([a, a, a], 2)

    def test_the_second_letter_is_the_first_one_that_clashes_with_an_earlier_one(self):
        a, b = (0, prevote(0, 0, "a", None)), (0, prevote(0, 0, "b", None))
        c, d = (0, precommit(0, 1, "a")), (0, precommit(0, 1, "b"))
        self.assert_found([a, c, d, b], 0, c, d)
        self.assert_found([a, c, b, d], 0, a, b)
        self.assert_found([c, a, d, b], 0, c, d)
        self.assert_found([b, d, c, a], 0, d, c)

    def test_the_first_letter_is_the_first_one_with_which_it_clashes(self):
        early, late = (0, precommit(0, 0, "a")), (0, precommit(0, 1, "a"))
        leaving, voted = (0, prevote(0, 2, "b", None)), (0, prevote(0, 2, "a", 1))
        self.assert_found([early, late, leaving], 0, early, leaving)
        self.assert_found([late, early, leaving], 0, late, leaving)
        self.assert_found([voted, late, early, leaving], 0, voted, leaving)
        self.assert_found([leaving, late, early], 0, leaving, late)

    def test_three_letters_that_all_clash(self):
        letters = [(1, prevote(0, 0, block, None)) for block in ("a", "b", None)]
        for ordered in itertools.permutations(letters):
            self.assert_found(list(ordered), 1, ordered[0], ordered[1])

    def test_letters_of_other_senders_between_them(self):
        a, b = (1, prevote(0, 0, "a", None)), (1, prevote(0, 0, "b", None))
        others = prevotes([0, 2, 3, 9], 0, "c")
        self.assert_found(others + [a] + others + [b] + others, 1, a, b)
        self.assert_none(others + [a] + others, 1)
        self.assert_none([a, (2, b[1])], 1)
        self.assert_none([a, (2, b[1])], 2)

    def test_repeated_letters(self):
        a, b = (1, prevote(0, 0, "a", None)), (1, prevote(0, 0, "b", None))
        c, d = (1, precommit(0, 5, "a")), (1, precommit(0, 5, None))
        self.assert_found([a, a, c, a, b, b, d], 1, a, b)
        self.assert_found([a, c, c, a, d, b, a], 1, c, d)

    def test_a_sender_that_is_no_member(self):
        a, b = (77, prevote(0, 0, "a", None)), (77, prevote(0, 0, "b", None))
        self.assert_found([a, b], 77, a, b)
        self.assert_none([a, a], 77)
        self.assert_none([a, b], 78)

    def test_letters_of_many_heights(self):
        votes = ((0, "a"), (1, "b"), (2, "c"), (1, "a"), (0, "b"))
        letters = [(0, prevote(height, 0, block, None)) for height, block in votes]
        self.assert_found(letters, 0, letters[1], letters[3])

    def test_as_the_document_says_for_many_letters(self):
        found = 0
        for seed in range(200):
            letters = mixed_letters(seed, 14, members=3, heights=(0, 0, 1))
            for who in range(4):
                before = list(letters)
                self.assertEqual(parts(charge_of(letters, who)), listed_charge(letters, who))
                self.assertEqual(letters, before)
                found += listed_charge(letters, who) is not None
        self.assertGreater(found, 100)


class AllMembers(unittest.TestCase):
    """Point 21: the charges against all members."""

    def test_they_are_listed_by_member(self):
        letters = []
        for who in (3, 0, 9, 2, 4):
            letters = letters + [(who, prevote(0, 0, "a", None)), (who, prevote(0, 0, "b", None))]
        for ordered in orders(letters, 20, seed=4):
            before = list(ordered)
            found = charges(FOUR, ordered)
            self.assertIs(type(found), list)
            self.assertEqual([charge.who for charge in found], [0, 2, 3])
            self.assertEqual([parts(charge) for charge in found], [listed_charge(ordered, who) for who in (0, 2, 3)])
            self.assertEqual(ordered, before)

    def test_without_a_clash(self):
        self.assertEqual(charges(FOUR, []), [])
        self.assertEqual(charges(FOUR, commit([0, 1, 2, 3], 0, "a")), [])

    def test_senders_that_are_no_members_are_left_out(self):
        letters = [(4, prevote(0, 0, "a", None)), (4, prevote(0, 0, "b", None))]
        self.assertEqual(charges(FOUR, letters), [])
        self.assertEqual([charge.who for charge in charges(Committee([1] * 5), letters)], [4])

    def test_each_charge_that_is_found_holds(self):
        for seed in range(60):
            letters = mixed_letters(seed, 40, members=6)
            found = charges(FOUR, letters)
            self.assertTrue(all(holds(charge) is True for charge in found))
            expected = [who for who in range(4) if listed_charge(letters, who)]
            self.assertEqual([charge.who for charge in found], expected)


class Forks(unittest.TestCase):
    """Point 22: two commits of different blocks at one height."""

    def assert_third(self, committee, letters, forks):
        for block, turn in forks:
            self.assertIs(committed(committee, letters, 0, turn, block), True)
        for ordered in orders(letters, 8, seed=5):
            named = [charge.who for charge in charges(committee, ordered)]
            self.assertIs(committee.is_third(named), True, ordered)

    def test_in_the_same_turn(self):
        for committee, one, other in (
            (FOUR, [0, 1, 2], [1, 2, 3]), (FOUR, [0, 1, 2], [0, 1, 2]), (Committee([5, 1, 1]), [0], [0, 1]),
            (Committee([3, 3, 1]), [0, 1], [0, 1]),
        ):
            self.assert_third(committee, commit(one, 2, "a") + commit(other, 2, "b"), (("a", 2), ("b", 2)))

    def test_in_different_turns_with_prevotes_that_lean_on_nothing(self):
        for one, other in itertools.product(itertools.combinations(range(4), 3), repeat=2):
            self.assert_third(FOUR, commit(one, 1, "a") + commit(other, 3, "b"), (("a", 1), ("b", 3)))

    def test_in_different_turns_with_prevotes_that_lean_on_an_earlier_certificate(self):
        for one, before, other in itertools.product(itertools.combinations(range(4), 3), repeat=3):
            letters = commit(one, 1, "a") + prevotes(before, 0, "b") + commit(other, 3, "b", 0)
            self.assert_third(FOUR, letters, (("a", 1), ("b", 3)))

    def test_in_different_turns_with_a_certificate_in_the_turn_of_the_first_commit(self):
        letters = commit([0, 1, 2], 1, "a") + prevotes([1, 2, 3], 1, "b") + commit([0, 1, 3], 3, "b", 1)
        self.assert_third(FOUR, letters, (("a", 1), ("b", 3)))

    def test_in_different_turns_with_a_certificate_between_them(self):
        letters = commit([0, 1, 2], 1, "a") + prevotes([1, 2, 3], 2, "b") + commit([0, 1, 3], 4, "b", 2)
        self.assert_third(FOUR, letters, (("a", 1), ("b", 4)))

    def test_among_mixed_letters(self):
        forks = 0
        for seed in range(400):
            committee = (FOUR, Committee([3, 1, 2, 2]), Committee([1, 1, 1]))[seed % 3]
            letters = mixed_letters(seed, 170, members=committee.size, turns=3)
            shown = {block for turn in range(3) for block in "ab" if committed(committee, letters, 0, turn, block)}
            if len(shown) == 2:
                forks += 1
                self.assertIs(committee.is_third([charge.who for charge in charges(committee, letters)]), True)
        self.assertGreater(forks, 10)


class Keepers(unittest.TestCase):
    """Point 22: letters that were signed through one journal."""

    def test_no_charge_is_found_however_often_the_journal_is_restored(self):
        for seed in range(60):
            chosen = random.Random(seed)
            journal, letters, refused = Journal(1), [], 0
            for _ in range(120):
                try:
                    letters.append(journal.sign(any_statement(chosen)))
                except Refused:
                    refused += 1
                if chosen.random() < 0.2:
                    torn = chosen.choice(([], ["1 prevote"], [""], ["1 precommit 0 0 a more"]))
                    journal = restore(1, journal.lines() + torn)
            self.assertGreater(refused, 10)
            for ordered in orders(letters, 4, seed):
                self.assertIsNone(charge_of(ordered, 1))
                self.assertEqual(charges(FOUR, ordered), [])


def any_statement(chosen):
    height, turn, block = chosen.randrange(2), chosen.randrange(6), chosen.choice(("a", "b", None))
    lean = chosen.choice((None,) + tuple(range(turn)))
    return chosen.choice((
        prevote(height, turn, block, lean), precommit(height, turn, block), proposal(height, turn, "a"),
    ))


class Doubles(unittest.TestCase):
    def test_precommits_alone_convict(self):
        letters = precommits([0, 1, 2], 0, "a") + precommits([1, 2, 3], 0, "b")
        self.assertEqual([parts(charge) for charge in charges(FOUR, letters)], [
            (1, (1, precommit(0, 0, "a")), (1, precommit(0, 0, "b"))),
            (2, (2, precommit(0, 0, "a")), (2, precommit(0, 0, "b"))),
        ])


if __name__ == "__main__":
    unittest.main()
