"""Points 2, 3 and 4: committees."""

import itertools
import unittest

from tribunal.committee import Committee
from tribunal.errors import BadWeights

MOST = 10 ** 12


class Weights(unittest.TestCase):
    """Point 2."""

    def assert_refused(self, weights, at):
        before = list(weights)
        with self.assertRaises(BadWeights) as caught:
            Committee(weights)
        self.assertEqual(caught.exception.at, at, weights)
        self.assertEqual(weights, before)

    def assert_accepted(self, weights):
        made = Committee(weights)
        self.assertEqual(made.weights, tuple(weights))
        self.assertEqual(made.size, len(weights))
        self.assertEqual(made.total, sum(weights))

    def test_right_weights_are_accepted(self):
        self.assert_accepted([1])
        self.assert_accepted([MOST])
        self.assert_accepted([3, 1, 2])
        self.assert_accepted([1, MOST] * 8)
        self.assert_accepted([1] * 16)
        self.assert_accepted([MOST] * 16)
        for size in range(1, 17):
            self.assert_accepted(list(range(7, 7 + size)))

    def test_a_weight_out_of_range_is_refused_wherever_it_stands(self):
        for wrong in (0, -1, -MOST, MOST + 1, 10 ** 40):
            for size in (1, 2, 5, 16):
                for at in range(size):
                    weights = [MOST, 1] * 8
                    weights = weights[:size]
                    weights[at] = wrong
                    self.assert_refused(weights, at)

    def test_the_first_wrong_weight_counts(self):
        self.assert_refused([1, 0, MOST + 1], 1)
        self.assert_refused([1, MOST + 1, 0, -5], 1)
        self.assert_refused([0, 0], 0)

    def test_weights_behind_sixteen_are_refused(self):
        self.assert_refused([1] * 17, 16)
        self.assert_refused([MOST] * 18, 16)
        self.assert_refused([5] * 100, 16)

    def test_weights_that_are_too_many_and_out_of_range(self):
        self.assert_refused([1] * 3 + [0] + [1] * 16, 3)
        self.assert_refused([1] * 15 + [0, 1], 15)
        self.assert_refused([1] * 16 + [0], 16)
        self.assert_refused([1] * 16 + [MOST + 1], 16)
        self.assert_refused([1] * 17 + [0], 16)

    def test_the_empty_list_is_refused(self):
        self.assert_refused([], 0)

    def test_the_weights_are_a_tuple_of_the_committee_alone(self):
        weights = [4, 1, 2]
        made = Committee(weights)
        self.assertIs(type(made.weights), tuple)
        self.assertEqual(weights, [4, 1, 2])
        weights[0] = 100
        weights.append(50)
        self.assertEqual((made.weights, made.size, made.total), ((4, 1, 2), 3, 7))
        self.assertEqual(made.weight_of([0, 3]), 4)
        self.assertEqual(made.leader(2, 1), 0)


class Quorums(unittest.TestCase):
    """Point 3."""

    def test_the_weight_is_the_sum_of_the_weights_that_are_listed(self):
        made = Committee([1, 10, 100, 1000])
        self.assertEqual(made.weight_of([0]), 1)
        self.assertEqual(made.weight_of([2]), 100)
        self.assertEqual(made.weight_of([3, 1]), 1010)
        self.assertEqual(made.weight_of([1, 3]), 1010)
        self.assertEqual(made.weight_of([0, 1, 2, 3]), 1111)
        self.assertEqual(made.weight_of([]), 0)

    def test_a_member_counts_once_however_often_it_is_listed(self):
        made = Committee([1, 10, 100])
        self.assertEqual(made.weight_of([1, 1]), 10)
        self.assertEqual(made.weight_of([2, 0, 2, 2, 0]), 101)
        self.assertFalse(made.is_third([1] * 50))
        self.assertFalse(Committee([2, 3]).is_quorum([1, 1]))

    def test_numbers_that_are_not_members_do_not_count(self):
        made = Committee([1, 10, 100])
        self.assertEqual(made.weight_of([-1, -2, -3, -4]), 0)
        self.assertEqual(made.weight_of([3, 4, 16, 10 ** 30]), 0)
        self.assertEqual(made.weight_of([-1, 1, 3]), 10)
        self.assertIs(made.is_quorum([-1]), False)
        self.assertIs(made.is_third([-1, 5]), False)

    def test_the_members_are_not_changed(self):
        made = Committee([1, 10, 100])
        members = [2, 2, 0, -1, 7]
        made.weight_of(members)
        made.is_quorum(members)
        made.is_third(members)
        self.assertEqual(members, [2, 2, 0, -1, 7])

    def test_exactly_two_thirds_are_no_quorum_and_one_more_is(self):
        for weights, members in (
            ([1, 1, 1], [0, 1]),
            ([2, 1], [0]),
            ([3, 1, 1, 1], [0, 1]),
            ([MOST, MOST, MOST], [2, 1]),
            ([666666666666, 333333333333], [0]),
        ):
            made = Committee(weights)
            self.assertEqual(3 * made.weight_of(members), 2 * made.total)
            self.assertIs(made.is_quorum(members), False)
            self.assertIs(made.is_third(members), True)
        self.assertIs(Committee([1, 1, 1]).is_quorum([0, 1, 2]), True)
        self.assertIs(Committee([3, 1, 1, 1]).is_quorum([0, 1, 2]), True)
        self.assertIs(Committee([5, 2]).is_quorum([0]), True)
        self.assertIs(Committee([666666666667, 333333333333]).is_quorum([0]), True)
        self.assertIs(Committee([666666666666, 333333333334]).is_quorum([0]), False)

    def test_exactly_a_third_is_no_third_and_one_more_is(self):
        for weights, members in (
            ([1, 1, 1], [2]),
            ([2, 1], [1]),
            ([3, 1, 1, 1], [1, 3]),
            ([MOST, MOST, MOST], [0]),
            ([666666666666, 333333333333], [1]),
        ):
            made = Committee(weights)
            self.assertEqual(3 * made.weight_of(members), made.total)
            self.assertIs(made.is_third(members), False)
            self.assertIs(made.is_quorum(members), False)
        self.assertIs(Committee([1, 1, 1]).is_third([0, 2]), True)
        self.assertIs(Committee([3, 1, 1, 1]).is_third([1, 2, 3]), True)
        self.assertIs(Committee([2, 3]).is_third([0]), True)
        self.assertIs(Committee([666666666666, 333333333334]).is_third([1]), True)
        self.assertIs(Committee([666666666667, 333333333333]).is_third([1]), False)

    def test_no_members_are_neither(self):
        made = Committee([5, 5])
        self.assertIs(made.is_quorum([]), False)
        self.assertIs(made.is_third([]), False)

    def test_all_members_are_both(self):
        for size in range(1, 17):
            made = Committee([MOST] * size)
            self.assertIs(made.is_quorum(list(range(size))), True)
            self.assertIs(made.is_third(list(range(size))), True)

    def assert_third_in_common(self, weights, lists):
        made = Committee(list(weights))
        quorums = [members for members in lists if made.is_quorum(members)]
        self.assertIn(list(range(made.size)), quorums)
        for one, other in itertools.product(quorums, repeat=2):
            common = [member for member in one if member in other]
            self.assertIs(made.is_third(common), True, (weights, one, other))

    def test_two_quorums_always_have_a_third_in_common(self):
        for size in range(1, 5):
            lists = sets_of_members(size)
            for weights in itertools.product((1, 2, 3, 5), repeat=size):
                self.assert_third_in_common(weights, lists)

    def test_two_quorums_that_list_members_often_have_a_third_in_common(self):
        for size in range(1, 4):
            lists = lists_of_numbers(size)
            for weights in itertools.product((1, 2, 3), repeat=size):
                self.assert_third_in_common(weights, lists)


class Leaders(unittest.TestCase):
    """Point 4."""

    def test_the_leader_goes_round(self):
        made = Committee([1, 1, 1, 1])
        self.assertEqual([made.leader(0, turn) for turn in range(6)], [0, 1, 2, 3, 0, 1])
        self.assertEqual([made.leader(height, 0) for height in range(6)], [0, 1, 2, 3, 0, 1])
        self.assertEqual(made.leader(3, 2), 1)
        self.assertEqual(made.leader(2, 3), 1)

    def test_the_weights_do_not_matter(self):
        made = Committee([MOST, 1, 7])
        self.assertEqual([made.leader(1, turn) for turn in range(4)], [1, 2, 0, 1])

    def test_one_member_leads_always(self):
        made = Committee([3])
        self.assertEqual(made.leader(0, 0), 0)
        self.assertEqual(made.leader(17, 10 ** 20), 0)

    def test_sixteen_members(self):
        made = Committee([1] * 16)
        self.assertEqual(made.leader(15, 0), 15)
        self.assertEqual(made.leader(8, 8), 0)

    def test_large_heights_and_turns(self):
        made = Committee([1] * 7)
        self.assertEqual(made.leader(10 ** 9, 0), 6)
        self.assertEqual(made.leader(0, 10 ** 9), 6)
        self.assertEqual(made.leader(999999999, 999999999), 3)
        self.assertEqual(made.leader(7 * 10 ** 40 + 3, 7 * 10 ** 50 + 5), 1)


def lists_of_numbers(size):
    """All lists of at most as many members as there are, with one number that is no member."""
    return [
        list(numbers)
        for many in range(size + 1)
        for numbers in itertools.product(range(size + 1), repeat=many)
    ]


def sets_of_members(size):
    """A list for each set of members."""
    return [
        [member for member, taken in enumerate(choice) if taken]
        for choice in itertools.product((False, True), repeat=size)
    ]


if __name__ == "__main__":
    unittest.main()
