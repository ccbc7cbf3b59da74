"""Points 10 and 11: what a list of letters shows."""

import unittest

from letters import commit, listed_certificate, listed_commit, mixed_letters, orders, precommits, prevotes
from tribunal.committee import Committee
from tribunal.plain import certified, committed
from tribunal.votes import prevote, proposal

FOUR = Committee([1, 1, 1, 1])


class ShowsCase(unittest.TestCase):
    shown = staticmethod(certified)

    def assert_shown(self, expected, letters, turn, block, height=0, committee=FOUR):
        """In whatever order the letters stand, and without changing the list."""
        for ordered in orders(letters, 6, seed=1):
            before = list(ordered)
            self.assertIs(self.shown(committee, ordered, height, turn, block), expected, ordered)
            self.assertEqual(ordered, before)


class Certificates(ShowsCase):
    """Point 10."""

    def test_a_quorum_without_leans(self):
        letters = prevotes([0, 1, 3], 2, "a")
        self.assert_shown(True, letters, 2, "a")
        self.assert_shown(False, letters, 2, "b")
        self.assert_shown(False, letters, 1, "a")
        self.assert_shown(False, letters, 3, "a")
        self.assert_shown(False, letters, 2, "a", height=1)

    def test_too_few(self):
        self.assert_shown(False, [], 0, "a")
        self.assert_shown(False, prevotes([0, 1], 0, "a"), 0, "a")
        self.assert_shown(False, prevotes([0, 1], 0, "a") + prevotes([2, 3], 0, "b"), 0, "a")

    def test_exactly_two_thirds_of_the_weight(self):
        three = Committee([1, 1, 1])
        self.assert_shown(False, prevotes([0, 1], 0, "a"), 0, "a", committee=three)
        self.assert_shown(True, prevotes([0, 1, 2], 0, "a"), 0, "a", committee=three)
        heavy = Committee([4, 1, 1])
        self.assert_shown(False, prevotes([1, 2], 0, "a"), 0, "a", committee=heavy)
        self.assert_shown(False, prevotes([0], 0, "a"), 0, "a", committee=heavy)
        self.assert_shown(True, prevotes([0, 2], 0, "a"), 0, "a", committee=heavy)
        self.assert_shown(True, prevotes([0], 0, "a"), 0, "a", committee=Committee([5, 1, 1]))

    def test_a_lean_on_a_certificate_of_an_earlier_turn(self):
        first = prevotes([0, 1, 2], 1, "a")
        self.assert_shown(True, first + prevotes([1, 2, 3], 4, "a", 1), 4, "a")
        self.assert_shown(True, first + prevotes([1, 2], 4, "a", 1) + prevotes([3], 4, "a"), 4, "a")

    def test_a_chain_of_three_turns(self):
        chain = prevotes([0, 1, 2], 0, "a") + prevotes([1, 2, 3], 2, "a", 0) + prevotes([0, 2, 3], 5, "a", 2)
        for turn in range(7):
            self.assert_shown(turn in (0, 2, 5), chain, turn, "a")
        for missing in range(3):
            broken = chain[:missing] + chain[missing + 1:]
            for turn in (0, 2, 5):
                self.assert_shown(False, broken, turn, "a")

    def test_a_chain_of_twelve_leans(self):
        chain = prevotes([0, 1, 2], 0, "a")
        for turn in range(1, 13):
            chain = chain + prevotes([turn % 4, (turn + 1) % 4, (turn + 2) % 4], turn, "a", turn - 1)
        self.assert_shown(True, chain, 12, "a")
        self.assert_shown(False, chain[:10] + chain[11:], 12, "a")

    def test_a_lean_on_a_turn_without_a_certificate(self):
        self.assert_shown(False, prevotes([0, 1, 2], 1, "a", 0), 1, "a")
        self.assert_shown(False, prevotes([0, 1], 0, "a") + prevotes([0, 1, 2], 1, "a", 0), 1, "a")
        self.assert_shown(False, prevotes([0, 1, 2], 0, "a") + prevotes([0, 1, 2], 2, "a", 1), 2, "a")

    def test_a_lean_on_a_certificate_for_another_block(self):
        letters = prevotes([0, 1, 2], 0, "b") + prevotes([0, 1, 2], 1, "a", 0)
        self.assert_shown(False, letters, 1, "a")
        self.assert_shown(True, letters, 0, "b")

    def test_a_lean_on_a_certificate_of_another_height(self):
        letters = prevotes([0, 1, 2], 0, "a", height=1) + prevotes([0, 1, 2], 1, "a", 0)
        self.assert_shown(False, letters, 1, "a")

    def test_a_lean_on_the_same_turn_or_a_later_one(self):
        certificate = prevotes([0, 1, 2], 3, "a")
        self.assert_shown(False, prevotes([0, 1, 2], 3, "a", 3), 3, "a")
        self.assert_shown(False, prevotes([0, 1], 3, "a") + prevotes([2, 3], 3, "a", 3), 3, "a")
        self.assert_shown(True, certificate + prevotes([3], 3, "a", 3), 3, "a")
        self.assert_shown(False, certificate + prevotes([0, 1, 2], 2, "a", 3), 2, "a")
        self.assert_shown(False, prevotes([0, 1, 2], 3, "a", 2) + prevotes([0, 1, 2], 2, "a", 3), 2, "a")
        self.assert_shown(False, prevotes([0, 1, 2], 3, "a", 2) + prevotes([0, 1, 2], 2, "a", 3), 3, "a")

    def test_one_prevote_that_does_not_count_is_missing(self):
        self.assert_shown(False, prevotes([0, 1], 1, "a") + prevotes([2], 1, "a", 0), 1, "a")
        self.assert_shown(True, prevotes([0, 1, 3], 1, "a") + prevotes([2], 1, "a", 0), 1, "a")

    def test_a_member_counts_once(self):
        self.assert_shown(False, prevotes([0, 0, 0, 1], 0, "a"), 0, "a")
        first = prevotes([0, 1, 2], 0, "a")
        self.assert_shown(False, first + prevotes([0, 1], 1, "a") + prevotes([0, 1], 1, "a", 0), 1, "a")

    def test_a_member_votes_twice_and_one_of_the_votes_counts(self):
        two = prevotes([0, 1], 3, "a")
        self.assert_shown(True, two + prevotes([2], 3, "a", 1) + prevotes([2], 3, "a"), 3, "a")
        self.assert_shown(False, two + prevotes([2], 3, "a", 1) + prevotes([2], 3, "a", 2), 3, "a")
        leaning = two + prevotes([2], 3, "a", 1) + prevotes([2], 3, "a", 2) + prevotes([1, 2, 3], 2, "a")
        self.assert_shown(True, leaning, 3, "a")

    def test_a_member_votes_twice_for_different_blocks(self):
        letters = prevotes([0, 1, 2], 0, "a") + prevotes([1, 2, 3], 0, "b")
        self.assert_shown(True, letters, 0, "a")
        self.assert_shown(True, letters, 0, "b")

    def test_senders_that_are_no_members(self):
        self.assert_shown(False, prevotes([0, 1, 4, 5, 6], 0, "a"), 0, "a")
        self.assert_shown(False, prevotes([4, 5, 6, 7], 0, "a"), 0, "a")
        self.assert_shown(True, prevotes([0, 1, 4, 2], 0, "a"), 0, "a")

    def test_letters_of_other_heights(self):
        letters = prevotes([0, 1], 0, "a") + prevotes([2, 3], 0, "a", height=1)
        self.assert_shown(False, letters, 0, "a")
        self.assert_shown(False, letters, 0, "a", height=1)
        self.assert_shown(True, prevotes([0, 1, 2], 0, "a", height=7), 0, "a", height=7)

    def test_proposals_and_precommits_are_no_prevotes(self):
        proposals = [(who, proposal(0, 0, "a")) for who in range(4)]
        self.assert_shown(False, proposals + precommits([0, 1, 2, 3], 0, "a"), 0, "a")
        self.assert_shown(False, prevotes([0, 1], 0, "a") + precommits([2, 3], 0, "a") + proposals, 0, "a")

    def test_none_is_not_a_block_and_has_no_certificate(self):
        self.assert_shown(False, prevotes([0, 1, 2, 3], 0, None), 0, None)
        self.assert_shown(False, prevotes([0, 1, 2, 3], 0, None), 0, "a")
        self.assert_shown(False, prevotes([0, 1, 2, 3], 0, "a"), 0, None)
        self.assert_shown(False, prevotes([0, 1], 0, "a") + prevotes([2, 3], 0, None), 0, "a")

    def test_prevotes_for_none_are_no_certificate_to_lean_on(self):
        self.assert_shown(False, prevotes([0, 1, 2], 0, None) + prevotes([0, 1, 2], 1, "a", 0), 1, "a")

    def test_as_the_document_says_for_many_letters(self):
        found = 0
        for seed in range(150):
            committee = (FOUR, Committee([3, 1, 2, 2]))[seed % 2]
            letters = mixed_letters(seed, 150, heights=(0, 0, 0, 1))
            for height, turn, block in ((h, t, b) for h in (0, 1) for t in range(5) for b in ("a", "b")):
                expected = listed_certificate(committee, letters, height, turn, block)
                self.assertIs(certified(committee, letters, height, turn, block), expected)
                found += expected
        self.assertGreater(found, 100)


class Commits(ShowsCase):
    """Point 11."""

    shown = staticmethod(committed)

    def test_a_certificate_and_precommits(self):
        letters = prevotes([0, 1, 2], 1, "a") + precommits([1, 2, 3], 1, "a")
        self.assert_shown(True, letters, 1, "a")
        self.assert_shown(False, letters, 0, "a")
        self.assert_shown(False, letters, 2, "a")
        self.assert_shown(False, letters, 1, "b")
        self.assert_shown(False, letters, 1, "a", height=1)
        self.assert_shown(True, commit([0, 1, 2], 3, "a", height=5), 3, "a", height=5)

    def test_a_certificate_without_precommits(self):
        self.assert_shown(False, prevotes([0, 1, 2, 3], 1, "a"), 1, "a")
        self.assert_shown(False, prevotes([0, 1, 2, 3], 1, "a") + precommits([0, 1], 1, "a"), 1, "a")

    def test_precommits_without_a_certificate(self):
        self.assert_shown(False, precommits([0, 1, 2, 3], 1, "a"), 1, "a")
        self.assert_shown(False, precommits([0, 1, 2, 3], 1, "a") + prevotes([0, 1], 1, "a"), 1, "a")
        self.assert_shown(False, precommits([0, 1, 2, 3], 1, "a") + prevotes([0, 1, 2, 3], 1, "a", 0), 1, "a")

    def test_a_certificate_that_leans(self):
        letters = prevotes([0, 1, 2], 0, "a") + commit([1, 2, 3], 2, "a", 0)
        self.assert_shown(True, letters, 2, "a")
        self.assert_shown(False, letters[1:], 2, "a")
        self.assert_shown(False, letters, 0, "a")

    def test_precommits_of_another_turn_block_or_height(self):
        base = prevotes([0, 1, 2], 1, "a") + precommits([0, 1], 1, "a")
        for other in (
            precommits([2, 3], 2, "a"), precommits([2, 3], 0, "a"), precommits([2, 3], 1, "b"),
            precommits([2, 3], 1, None), precommits([2, 3], 1, "a", height=1),
        ):
            self.assert_shown(False, base + other, 1, "a")
        self.assert_shown(True, base + precommits([3], 1, "a"), 1, "a")

    def test_a_certificate_of_another_turn_block_or_height(self):
        base = precommits([0, 1, 2], 1, "a")
        for other in (
            prevotes([0, 1, 2], 0, "a"), prevotes([0, 1, 2], 2, "a"), prevotes([0, 1, 2], 1, "b"),
            prevotes([0, 1, 2], 1, None), prevotes([0, 1, 2], 1, "a", height=1),
        ):
            self.assert_shown(False, base + other, 1, "a")

    def test_a_member_counts_once(self):
        self.assert_shown(False, prevotes([0, 1, 2], 0, "a") + precommits([0, 0, 1, 1, 1], 0, "a"), 0, "a")

    def test_senders_that_are_no_members(self):
        self.assert_shown(False, prevotes([0, 1, 2], 0, "a") + precommits([0, 1, 4, 5], 0, "a"), 0, "a")

    def test_exactly_two_thirds_of_the_weight(self):
        heavy = Committee([4, 1, 1])
        letters = prevotes([0, 1], 0, "a") + precommits([0], 0, "a")
        self.assert_shown(False, letters, 0, "a", committee=heavy)
        self.assert_shown(True, letters + precommits([2], 0, "a"), 0, "a", committee=heavy)

    def test_prevotes_are_no_precommits(self):
        self.assert_shown(False, prevotes([0, 1, 2, 3], 0, "a") + [(0, proposal(0, 0, "a"))], 0, "a")

    def test_none_is_not_committed(self):
        self.assert_shown(False, commit([0, 1, 2, 3], 0, None), 0, None)
        self.assert_shown(False, commit([0, 1, 2, 3], 0, None), 0, "a")

    def test_different_blocks_in_one_turn(self):
        letters = commit([0, 1, 2], 0, "a") + commit([1, 2, 3], 0, "b")
        self.assert_shown(True, letters, 0, "a")
        self.assert_shown(True, letters, 0, "b")

    def test_as_the_document_says_for_many_letters(self):
        found = 0
        for seed in range(150):
            committee = (FOUR, Committee([3, 1, 2, 2]))[seed % 2]
            letters = mixed_letters(seed, 150, turns=3, heights=(0, 0, 0, 1))
            for height, turn, block in ((h, t, b) for h in (0, 1) for t in range(4) for b in ("a", "b")):
                expected = listed_commit(committee, letters, height, turn, block)
                self.assertIs(committed(committee, letters, height, turn, block), expected)
                found += expected
        self.assertGreater(found, 100)


class TwoThirds(unittest.TestCase):
    def test_a_letter_may_stand_in_the_list_twice(self):
        letters = prevotes([0, 1], 0, "a") * 3
        self.assertIs(certified(FOUR, letters, 0, 0, "a"), False)
        self.assertIs(certified(FOUR, letters + [(3, prevote(0, 0, "a", None))], 0, 0, "a"), True)


if __name__ == "__main__":
    unittest.main()
