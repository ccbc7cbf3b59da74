"""Points 5 and 9: statements, and which of them clash."""

import itertools
import unittest

from tribunal.votes import clash, is_vote, precommit, prevote, proposal

LARGE = 10 ** 30


class Statements(unittest.TestCase):
    """Point 5."""

    def assert_same(self, made, expected):
        self.assertIs(type(made), tuple)
        self.assertEqual(made, expected)

    def test_a_proposal(self):
        self.assert_same(proposal(0, 1, "abc"), ("proposal", 0, 1, "abc"))
        self.assert_same(proposal(LARGE, 0, "z9"), ("proposal", LARGE, 0, "z9"))

    def test_a_prevote(self):
        self.assert_same(prevote(7, 4, "abc", 2), ("prevote", 7, 4, "abc", 2))
        self.assert_same(prevote(7, 4, "abc", 0), ("prevote", 7, 4, "abc", 0))
        self.assert_same(prevote(7, 4, "abc", None), ("prevote", 7, 4, "abc", None))
        self.assert_same(prevote(0, LARGE, None, None), ("prevote", 0, LARGE, None, None))
        self.assert_same(prevote(0, 5, None, 3), ("prevote", 0, 5, None, 3))

    def test_a_precommit(self):
        self.assert_same(precommit(7, 3, "abc"), ("precommit", 7, 3, "abc"))
        self.assert_same(precommit(7, 0, None), ("precommit", 7, 0, None))

    def test_a_limit_is_not_checked(self):
        self.assert_same(proposal(0, 0, "a" * 61), ("proposal", 0, 0, "a" * 61))
        self.assert_same(prevote(0, 1, "a" * 61, 1), ("prevote", 0, 1, "a" * 61, 1))
        self.assert_same(precommit(-1, -1, ""), ("precommit", -1, -1, ""))

    def test_prevotes_and_precommits_are_votes(self):
        self.assertIs(is_vote(prevote(0, 0, "a", None)), True)
        self.assertIs(is_vote(prevote(3, 2, None, None)), True)
        self.assertIs(is_vote(precommit(0, 0, "a")), True)
        self.assertIs(is_vote(precommit(3, 2, None)), True)

    def test_proposals_are_not_votes(self):
        self.assertIs(is_vote(proposal(0, 0, "a")), False)
        self.assertIs(is_vote(proposal(3, 2, "prevote")), False)
        self.assertIs(is_vote(proposal(3, 2, "precommit")), False)


class ClashCase(unittest.TestCase):
    def assert_clash(self, one, other):
        self.assertIs(clash(one, other), True, (one, other))
        self.assertIs(clash(other, one), True, (other, one))

    def assert_no_clash(self, one, other):
        self.assertIs(clash(one, other), False, (one, other))
        self.assertIs(clash(other, one), False, (other, one))


class TwoPrevotes(ClashCase):
    """Point 9, the first case."""

    def test_of_one_turn_for_different_blocks(self):
        self.assert_clash(prevote(0, 0, "a", None), prevote(0, 0, "b", None))
        self.assert_clash(prevote(9, 4, "a", 2), prevote(9, 4, "b", None))
        self.assert_clash(prevote(9, 4, "a", 2), prevote(9, 4, "aa", 2))
        self.assert_clash(prevote(LARGE, LARGE, "a", 2), prevote(LARGE, LARGE, "b", 3))

    def test_of_one_turn_for_a_block_and_for_none(self):
        self.assert_clash(prevote(0, 0, "a", None), prevote(0, 0, None, None))
        self.assert_clash(prevote(5, 3, "a", 1), prevote(5, 3, None, None))
        self.assert_clash(prevote(5, 3, "a", 1), prevote(5, 3, None, 1))

    def test_of_one_turn_for_the_same_block(self):
        self.assert_no_clash(prevote(0, 0, "a", None), prevote(0, 0, "a", None))
        self.assert_no_clash(prevote(0, 3, "a", None), prevote(0, 3, "a", 2))
        self.assert_no_clash(prevote(0, 3, "a", 1), prevote(0, 3, "a", 2))

    def test_of_one_turn_for_none(self):
        self.assert_no_clash(prevote(0, 0, None, None), prevote(0, 0, None, None))
        self.assert_no_clash(prevote(0, 3, None, None), prevote(0, 3, None, 1))

    def test_of_different_turns(self):
        self.assert_no_clash(prevote(0, 0, "a", None), prevote(0, 1, "b", None))
        self.assert_no_clash(prevote(0, 5, "a", 2), prevote(0, 6, "b", 2))
        self.assert_no_clash(prevote(0, 0, "a", None), prevote(0, 1, None, None))

    def test_of_different_heights(self):
        self.assert_no_clash(prevote(0, 0, "a", None), prevote(1, 0, "b", None))
        self.assert_no_clash(prevote(0, 1, "a", None), prevote(1, 1, None, None))
        self.assert_no_clash(prevote(0, 1, "a", None), prevote(1, 0, "b", None))


class TwoPrecommits(ClashCase):
    """Point 9, the second case."""

    def test_of_one_turn_for_different_blocks(self):
        self.assert_clash(precommit(0, 0, "a"), precommit(0, 0, "b"))
        self.assert_clash(precommit(9, 4, "a"), precommit(9, 4, "a0"))
        self.assert_clash(precommit(LARGE, LARGE, "a"), precommit(LARGE, LARGE, "b"))

    def test_of_one_turn_for_a_block_and_for_none(self):
        self.assert_clash(precommit(0, 0, "a"), precommit(0, 0, None))

    def test_of_one_turn_for_the_same(self):
        self.assert_no_clash(precommit(2, 1, "a"), precommit(2, 1, "a"))
        self.assert_no_clash(precommit(2, 1, None), precommit(2, 1, None))

    def test_of_different_turns(self):
        self.assert_no_clash(precommit(0, 0, "a"), precommit(0, 1, "b"))
        self.assert_no_clash(precommit(0, 0, "a"), precommit(0, 1, None))
        self.assert_no_clash(precommit(0, 0, None), precommit(0, 7, "b"))

    def test_of_different_heights(self):
        self.assert_no_clash(precommit(0, 3, "a"), precommit(1, 3, "b"))
        self.assert_no_clash(precommit(0, 3, "a"), precommit(1, 3, None))


class PrecommitAndPrevote(ClashCase):
    """Point 9, the third case."""

    def test_a_later_prevote_for_another_block_that_leans_on_no_turn(self):
        self.assert_clash(precommit(0, 0, "a"), prevote(0, 1, "b", None))
        self.assert_clash(precommit(5, 2, "a"), prevote(5, 3, "b", None))
        self.assert_clash(precommit(5, 2, "a"), prevote(5, 40, "aa", None))
        self.assert_clash(precommit(LARGE, LARGE, "a"), prevote(LARGE, LARGE + 1, "b", None))

    def test_a_later_prevote_for_another_block_that_leans_on_an_earlier_turn(self):
        self.assert_clash(precommit(0, 1, "a"), prevote(0, 2, "b", 0))
        self.assert_clash(precommit(0, 2, "a"), prevote(0, 5, "b", 0))
        self.assert_clash(precommit(0, 2, "a"), prevote(0, 5, "b", 1))

    def test_a_later_prevote_that_leans_on_the_turn_of_the_precommit(self):
        self.assert_no_clash(precommit(0, 0, "a"), prevote(0, 1, "b", 0))
        self.assert_no_clash(precommit(0, 2, "a"), prevote(0, 5, "b", 2))

    def test_a_later_prevote_that_leans_on_a_later_turn(self):
        self.assert_no_clash(precommit(0, 2, "a"), prevote(0, 5, "b", 3))
        self.assert_no_clash(precommit(0, 2, "a"), prevote(0, 5, "b", 4))

    def test_a_later_prevote_for_the_same_block(self):
        for lean in (None, 0, 1, 2, 3):
            self.assert_no_clash(precommit(0, 2, "a"), prevote(0, 5, "a", lean))

    def test_a_later_prevote_for_none(self):
        for lean in (None, 0, 1, 2, 3):
            self.assert_no_clash(precommit(0, 2, "a"), prevote(0, 5, None, lean))
            self.assert_no_clash(precommit(0, 2, None), prevote(0, 5, None, lean))

    def test_a_precommit_for_none(self):
        for lean in (None, 0, 1, 2, 3):
            self.assert_no_clash(precommit(0, 2, None), prevote(0, 5, "b", lean))
        self.assert_no_clash(precommit(0, 2, None), prevote(0, 2, "b", None))

    def test_a_prevote_for_another_block_in_the_same_turn(self):
        self.assert_no_clash(precommit(0, 0, "a"), prevote(0, 0, "b", None))
        self.assert_no_clash(precommit(0, 2, "a"), prevote(0, 2, "b", None))
        self.assert_no_clash(precommit(0, 2, "a"), prevote(0, 2, "b", 1))
        self.assert_no_clash(precommit(0, 2, "a"), prevote(0, 2, None, None))

    def test_a_prevote_for_another_block_in_an_earlier_turn(self):
        self.assert_no_clash(precommit(0, 1, "a"), prevote(0, 0, "b", None))
        self.assert_no_clash(precommit(0, 4, "a"), prevote(0, 3, "b", None))
        self.assert_no_clash(precommit(0, 4, "a"), prevote(0, 3, "b", 1))

    def test_of_different_heights(self):
        self.assert_no_clash(precommit(0, 2, "a"), prevote(1, 5, "b", None))
        self.assert_no_clash(precommit(1, 2, "a"), prevote(0, 5, "b", 0))


class Proposals(ClashCase):
    """Point 9: a proposal clashes with nothing."""

    def test_two_proposals(self):
        self.assert_no_clash(proposal(0, 0, "a"), proposal(0, 0, "b"))
        self.assert_no_clash(proposal(0, 0, "a"), proposal(0, 0, "a"))
        self.assert_no_clash(proposal(0, 0, "a"), proposal(0, 1, "b"))
        self.assert_no_clash(proposal(0, 0, "a"), proposal(1, 0, "b"))

    def test_a_proposal_beside_a_prevote(self):
        for turn in range(3):
            for block in ("a", "b", None):
                self.assert_no_clash(proposal(0, 1, "a"), prevote(0, turn, block, None))
        self.assert_no_clash(proposal(0, 1, "a"), prevote(0, 2, "b", 0))

    def test_a_proposal_beside_a_precommit(self):
        for turn in range(3):
            for block in ("a", "b", None):
                self.assert_no_clash(proposal(0, 1, "a"), precommit(0, turn, block))


class AllPairs(ClashCase):
    """Point 9 over all pairs of some statements."""

    def test_the_pairs_that_clash_are_those_of_the_three_cases_and_no_others(self):
        statements = some_statements()
        self.assertEqual(len(set(statements)), 100)
        for one, other in itertools.product(statements, repeat=2):
            expected = listed(one, other) or listed(other, one)
            self.assertIs(clash(one, other), expected, (one, other))

    def test_no_statement_clashes_with_itself(self):
        for statement in some_statements():
            self.assert_no_clash(statement, statement)


def some_statements():
    made = []
    for height, turn in itertools.product(range(2), range(4)):
        made.extend(proposal(height, turn, block) for block in ("a", "b"))
        for block in ("a", "b", None):
            made.append(precommit(height, turn, block))
            made.extend(prevote(height, turn, block, lean) for lean in (None, *range(turn)))
    return made


def listed(one, other):
    """Whether the document lists the pair, in this order."""
    same_height = one[1] == other[1]
    match one[0], other[0]:
        case ("prevote", "prevote") | ("precommit", "precommit"):
            return same_height and one[2] == other[2] and one[3] != other[3]
        case ("precommit", "prevote"):
            blocks = one[3] is not None and other[3] is not None and one[3] != other[3]
            leans = other[4] is None or other[4] < one[2]
            return same_height and blocks and other[2] > one[2] and leans
    return False


if __name__ == "__main__":
    unittest.main()
