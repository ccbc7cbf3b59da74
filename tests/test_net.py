"""Points 24 and 25: nets."""

import copy
import unittest

from letters import commit, precommits, prevotes
from nets import fork, give, hear_all, state, to_turn
from tribunal.errors import BadCommand, BadWeights, Forged
from tribunal.net import Net
from tribunal.replica import Replica
from tribunal.votes import precommit, prevote, proposal

FOUR = [1, 1, 1, 1]
FIRST = [(0, proposal(0, 0, "b0t0")), (0, prevote(0, 0, "b0t0", None))]


class NetCase(unittest.TestCase):
    def assert_kinds(self, net):
        parts = (net.size, net.keepers, net.bag, net.history)
        self.assertEqual([type(part) for part in parts], [int, dict, list, list])
        for who, keeper in net.keepers.items():
            self.assertIsInstance(keeper, Replica)
            self.assertEqual(keeper.journal.who, who)
        for entry in net.history:
            self.assertEqual((type(entry), [type(part) for part in entry]), (tuple, [int, int, str, list]))

    def assert_same(self, net, work):
        """The work does not change the net; returns what it returns."""
        before = state(net)
        found = work()
        self.assertEqual(state(net), before)
        return found


class Beginning(NetCase):
    def test_a_net_without_liars(self):
        net = Net(FOUR, [])
        self.assertEqual((net.size, list(net.keepers), net.history), (4, [0, 1, 2, 3], []))
        self.assertEqual(net.bag, FIRST)
        for who in range(4):
            self.assertEqual(net.chain(who), [])
            self.assertEqual((net.keepers[who].height, net.keepers[who].turn), (0, 0))
        self.assert_kinds(net)

    def test_liars_do_not_start(self):
        net = Net(FOUR, [0, 2])
        self.assertEqual((net.size, list(net.keepers), net.bag), (4, [1, 3], []))
        net = Net(FOUR, [3, 1])
        self.assertEqual((list(net.keepers), net.bag), ([0, 2], FIRST))
        self.assert_kinds(net)

    def test_the_letters_of_the_starting_keepers(self):
        net = Net([5], [])
        expected = [(0, made(height)) for height in (0, 1) for made in (
            lambda h: proposal(h, 0, f"b{h}t0"), lambda h: prevote(h, 0, f"b{h}t0", None),
            lambda h: precommit(h, 0, f"b{h}t0"),
        )]
        self.assertEqual(net.bag, expected)
        self.assertEqual(net.history, [(0, 0, "b0t0", [expected[2], expected[1]])])
        self.assertEqual(net.chain(0), ["b0t0"])
        self.assert_kinds(net)

    def test_the_grants(self):
        self.assertEqual(Net(FOUR, []).keepers[2].chain.ledgers[0].balances, ())
        for grants in ([5, 0, 7], (5, 0, 7)):
            net = Net(FOUR, [1], grants)
            for keeper in net.keepers.values():
                self.assertEqual(keeper.chain.ledgers[0].balances, (5, 0, 7))
                self.assertEqual(keeper.chain.committees[0].weights, (1, 1, 1, 1))

    def test_the_given_lists_stay_and_do_not_matter_any_more(self):
        weights, liars, grants = [1, 2, 3], [2], [4]
        net = Net(weights, liars, grants)
        self.assertEqual((weights, liars, grants), ([1, 2, 3], [2], [4]))
        weights[0], grants[0] = 50, 60
        liars.clear()
        net.crash(0, "")
        self.assertEqual(net.keepers[0].chain.committee().weights, (1, 2, 3))
        self.assertEqual(net.keepers[0].chain.ledgers[0].balances, (4,))
        net.inject((2, precommit(0, 0, "a")))
        self.assertEqual(net.size, 3)

    def test_wrong_weights_if_there_is_a_keeper(self):
        for weights, liars, at in (
            ([0], [], 0), ([1, -1], [0], 1), ([1, 1, 10 ** 12 + 1], [2], 2), ([1] * 17, list(range(16)), 16),
            ([0, 1], [0], 0),
        ):
            with self.assertRaises(BadWeights) as caught:
                Net(weights, liars)
            self.assertIs(type(caught.exception), BadWeights)
            self.assertEqual(caught.exception.at, at)

    def test_only_liars(self):
        net = Net(FOUR, [3, 2, 1, 0])
        self.assertEqual((net.size, net.keepers, net.bag, net.history), (4, {}, [], []))
        net.inject((3, precommit(0, 0, "a")))
        for who in range(4):
            net.deliver(0, who)
            net.timeout(who)
            net.crash(who, "")
        self.assertEqual(net.bag, [(3, precommit(0, 0, "a"))])
        self.assert_same(net, lambda: self.assertRaises(Forged, net.inject, (4, precommit(0, 0, "a"))))


class Delivering(NetCase):
    """Point 24."""

    def test_to_a_keeper(self):
        net = Net(FOUR, [])
        self.assertIsNone(net.deliver(0, 2))
        self.assertEqual(net.bag, FIRST + [(2, prevote(0, 0, "b0t0", None))])
        net.deliver(0, 1)
        self.assertEqual(net.bag[3:], [(1, prevote(0, 0, "b0t0", None))])
        net.deliver(2, 1)
        self.assertEqual(net.bag[4:], [])
        net.deliver(1, 1)
        self.assertEqual(net.bag[4:], [(1, precommit(0, 0, "b0t0"))])
        self.assertEqual(net.keepers[1].step, "precommit")
        self.assertEqual(net.keepers[3].step, "propose")

    def test_to_a_liar(self):
        net = Net(FOUR, [2])
        for at in (0, 1):
            self.assertIsNone(self.assert_same(net, lambda at=at: net.deliver(at, 2)))

    def test_several_times_and_to_its_sender(self):
        net = Net(FOUR, [])
        net.deliver(0, 1)
        for _ in range(3):
            self.assert_same(net, lambda: net.deliver(0, 1))
            self.assert_same(net, lambda: net.deliver(0, 0))
            self.assert_same(net, lambda: net.deliver(1, 0))

    def test_in_any_order(self):
        found = []
        for backwards in (False, True):
            net = Net(FOUR, [1, 2, 3])
            letters = commit([1, 2, 3], 0, "x") + [(1, proposal(1, 0, "y"))] + commit([1, 2, 3], 0, "y", height=1)
            for letter in letters:
                net.inject(letter)
            for at in sorted(range(2, len(net.bag)), reverse=backwards):
                net.deliver(at, 0)
            net.timeout(0)
            found.append(net.chain(0))
        self.assertEqual(found, [["x", "y"]] * 2)

    def test_never(self):
        net = Net(FOUR, [])
        for _ in range(9):
            for who in (0, 1):
                net.timeout(who)
        self.assertEqual([net.keepers[who].turn for who in range(4)], [3, 3, 0, 0])

    def test_a_letter_of_the_bag_may_stand_there_several_times(self):
        net = Net(FOUR, [3])
        letter = (3, prevote(0, 0, "b0t0", None))
        for many in range(1, 4):
            net.inject(letter)
            self.assertEqual(net.bag[2:], [letter] * many)

    def test_a_commit_stands_in_the_history(self):
        net = Net(FOUR, [1, 2, 3])
        letters = commit([1, 2, 3], 0, "x")
        for letter in letters:
            give(net, letter, 0)
        paper = precommits([0, 1, 2], 0, "x") + prevotes([1, 2, 3], 0, "x")
        self.assertEqual(net.history, [(0, 0, "x", paper)])
        self.assertEqual(net.chain(0), ["x"])
        self.assertEqual(net.keepers[0].papers, [paper])
        self.assert_kinds(net)

    def test_the_chain_is_a_list_of_its_own(self):
        net = Net([5], [])
        net.chain(0).append("x")
        self.assertEqual(net.chain(0), ["b0t0"])


class Waiting(NetCase):
    def test_a_keeper_gives_up(self):
        net = Net(FOUR, [])
        self.assertIsNone(net.timeout(3))
        self.assertEqual(net.bag, FIRST + [(3, prevote(0, 0, None, None))])
        net.timeout(0)
        self.assertEqual(net.bag[3:], [(0, precommit(0, 0, None))])
        net.timeout(0)
        self.assertEqual(len(net.bag), 4)
        self.assertEqual(net.keepers[0].turn, 1)

    def test_a_liar_gives_up(self):
        net = Net(FOUR, [3, 0])
        for who in (3, 0):
            self.assertIsNone(self.assert_same(net, lambda who=who: net.timeout(who)))

    def test_a_commit_in_a_timeout(self):
        net = Net([5], [])
        net.timeout(0)
        net.timeout(0)
        self.assertEqual(net.chain(0), ["b0t0", "b1t0", "b2t0"])
        self.assertEqual([entry[:3] for entry in net.history], [(0, h, f"b{h}t0") for h in range(3)])


class Injecting(NetCase):
    def test_a_letter_of_a_liar(self):
        net = Net(FOUR, [1, 3])
        letters = [(1, proposal(0, 1, "x")), (3, prevote(9, 4, None, 2)), (1, precommit(0, 0, "x"))]
        for letter in letters:
            self.assertIsNone(net.inject(letter))
        self.assertEqual(net.bag, FIRST + letters)
        self.assertEqual(net.history, [])

    def test_letters_of_others(self):
        net = Net(FOUR, [1, 3])
        for sender in (0, 2, 4, 5, 16, 10 ** 9, -1):
            for statement in (proposal(0, 0, "x"), prevote(0, 0, "x", None), precommit(0, 0, None)):
                with self.assertRaises(Forged) as caught:
                    self.assert_same(net, lambda: net.inject((sender, statement)))
                self.assertIs(type(caught.exception), Forged)
        self.assertRaises(Forged, net.inject, FIRST[0])
        self.assertEqual(net.bag, FIRST)

    def test_a_liar_that_is_no_member(self):
        net = Net(FOUR, [7, 3])
        self.assertRaises(Forged, net.inject, (7, proposal(0, 0, "x")))
        self.assertEqual((net.size, list(net.keepers), net.bag), (4, [0, 1, 2], FIRST))


class Submitting(NetCase):
    def test_at_a_keeper(self):
        net = Net(FOUR, [], [5, 5])
        self.assertIsNone(self.assert_same(net, lambda: net.submit(1, ("p", 0, 1, 2))))
        to_turn(net, 1, 1)
        self.assertEqual(net.bag[-2][1], proposal(0, 1, "p0q1r2"))
        to_turn(net, 2, 2)
        self.assertEqual(net.bag[-2][1], proposal(0, 2, "b0t2"))

    def test_wrong_commands(self):
        net = Net(FOUR, [3])
        for command in (("w", 0), ("d", 0, "0" * 57), ("p", 0, 0, 10 ** 6), ("x", 0, 0)):
            with self.assertRaises(BadCommand) as caught:
                self.assert_same(net, lambda: net.submit(1, command))
            self.assertIs(type(caught.exception), BadCommand)
            self.assertIsNone(self.assert_same(net, lambda: net.submit(3, command)))

    def test_at_a_liar(self):
        net = Net(FOUR, [3])
        self.assertIsNone(self.assert_same(net, lambda: net.submit(3, ("p", 0, 1, 2))))


class Assisting(NetCase):
    def behind(self):
        """A net in which only the keeper 0 has committed a block."""
        net = Net(FOUR, [2, 3])
        to_turn(net, 0, 2)
        fork(net, 0, "x", 0, 2)
        return net

    def test_a_block_that_the_source_has(self):
        net = self.behind()
        paper = net.history[0][3]
        letters = len(net.bag)
        self.assertIs(net.assist(1, 0), True)
        self.assertEqual((net.chain(1), net.keepers[1].papers), (["x"], [paper]))
        self.assertEqual(net.history, [(0, 0, "x", paper), (1, 0, "x", paper)])
        self.assertEqual(net.bag[letters:], [(1, proposal(1, 0, "b1t0")), (1, prevote(1, 0, "b1t0", None))])
        self.assert_kinds(net)

    def test_a_source_that_has_no_such_block(self):
        net = self.behind()
        self.assertIs(self.assert_same(net, lambda: net.assist(0, 1)), False)
        self.assertIs(self.assert_same(net, lambda: net.assist(0, 0)), False)
        net.assist(1, 0)
        for to, source in ((0, 1), (1, 0), (1, 1)):
            self.assertIs(self.assert_same(net, lambda: net.assist(to, source)), False)

    def test_liars(self):
        net = self.behind()
        for to, source in ((1, 2), (2, 0), (3, 2), (2, 2), (0, 3)):
            self.assertIs(self.assert_same(net, lambda: net.assist(to, source)), False)

    def test_block_after_block(self):
        net = Net(FOUR, [])
        hear_all(net, 60)
        self.assertGreater(net.keepers[0].height, 3)
        height = net.keepers[0].height
        net.crash(3, "")
        for many in range(height):
            self.assertEqual(len(net.chain(3)), many)
            self.assertIs(net.assist(3, 0), True)
        self.assertIs(net.assist(3, 0), False)
        self.assertEqual(net.chain(3), net.chain(0))
        # The letters that it had heard are lost, too, so it hears all of them again.
        hear_all(net, 200)
        self.assertGreater(net.keepers[3].height, height)

    def test_a_source_that_adopted_the_block_itself(self):
        net = Net([1, 1, 1, 1, 1], [2, 3, 4])
        to_turn(net, 0, 2)
        fork(net, 0, "x", 0, 2)
        self.assertIs(net.assist(1, 0), True)
        net.crash(0, "torn")
        self.assertIs(net.assist(0, 1), True)
        self.assertEqual([entry[:3] for entry in net.history], [(0, 0, "x"), (1, 0, "x"), (0, 0, "x")])
        self.assertEqual(net.history[2][3], net.history[0][3])

    def test_a_paper_that_does_not_show_it(self):
        net = Net([1, 1, 1, 1], [2, 3])
        for who, block in ((0, "w2x90"), (1, "y")):
            to_turn(net, who, 2)
            fork(net, who, block, 0, 2)
        self.assertEqual([net.chain(who) for who in (0, 1)], [["w2x90"], ["y"]])
        # Member 2 alone is a quorum of the committee behind the block of keeper 0, but not of the other one.
        for make in (lambda: prevote(1, 0, "z", None), lambda: precommit(1, 0, "z")):
            give(net, (2, make()), 0)
        self.assertEqual(net.chain(0), ["w2x90", "z"])
        self.assertIs(self.assert_same(net, lambda: net.assist(1, 0)), False)
        # A keeper that has lost its chain can be assisted again.
        net.crash(1, "")
        self.assertIs(net.assist(1, 0), True)
        self.assertIs(net.assist(1, 0), True)
        self.assertEqual(net.chain(1), ["w2x90", "z"])


class Crashing(NetCase):
    """Point 25."""

    torn = ("", " ", "x", "0", "0 precommit", "0 prevote 0 0 b0t0", "1 prevote 0 0 b0t0 - ", "0 proposal 0 0 -")

    def test_it_starts_again_with_its_journal(self):
        for torn in self.torn:
            net = Net(FOUR, [])
            net.deliver(0, 2)
            signed = list(net.keepers[2].journal.signed)
            before = net.keepers[2]
            self.assertIsNone(net.crash(2, torn))
            keeper = net.keepers[2]
            self.assertIsNot(keeper, before)
            self.assertEqual(keeper.journal.signed, signed)
            self.assertEqual((keeper.height, keeper.turn, keeper.step), (0, 0, "propose"))
            self.assertEqual((net.chain(2), keeper.papers), ([], []))
            self.assertEqual(list(net.keepers), [0, 1, 2, 3])
            self.assertEqual(len(net.bag), 3)
            self.assert_kinds(net)

    def test_the_letters_of_the_start_go_into_the_bag(self):
        for torn in self.torn:
            net = Net(FOUR, [])
            net.crash(0, torn)
            self.assertEqual(net.bag, FIRST + FIRST)
            self.assertEqual(len(net.keepers[0].journal.signed), 2)

    def test_chain_and_pool_are_empty(self):
        net = Net(FOUR, [0, 2, 3])
        for letter in commit([0, 2, 3], 0, "x"):
            give(net, letter, 1)
        net.submit(1, ("w", 1, 5))
        self.assertEqual(net.chain(1), ["x"])
        history = list(net.history)
        net.crash(1, "")
        self.assertEqual((net.chain(1), net.history), ([], history))
        self.assertEqual(net.keepers[1].chain.height(), 0)
        to_turn(net, 1, 1)
        self.assertEqual(net.bag[-2][1], proposal(0, 1, "b0t1"))

    def test_what_was_signed_binds(self):
        net = Net(FOUR, [2, 3])
        to_turn(net, 0, 2)
        give(net, (2, proposal(0, 2, "x")), 0)
        self.assertEqual(net.bag[-1], (0, prevote(0, 2, "x", None)))
        net.crash(0, "")
        self.assertEqual((net.keepers[0].turn, net.keepers[0].step), (2, "propose"))
        letters = len(net.bag)
        give(net, (2, proposal(0, 2, "y")), 0)
        self.assertEqual(net.bag[letters:], [(2, proposal(0, 2, "y"))])

    def test_the_weights_are_those_of_the_beginning(self):
        net = Net(FOUR, [0, 2, 3])
        for letter in commit([0, 2, 3], 0, "w1x99"):
            give(net, letter, 1)
        self.assertEqual(net.keepers[1].chain.committee().weights, (1, 99, 1, 1))
        net.crash(1, "")
        self.assertEqual(net.keepers[1].chain.committee().weights, (1, 1, 1, 1))

    def test_a_liar(self):
        net = Net(FOUR, [0])
        self.assertIsNone(self.assert_same(net, lambda: net.crash(0, "")))

    def test_the_history_keeps_the_commits_of_before(self):
        net = Net([5], [])
        net.timeout(0)
        before = list(net.history)
        self.assertEqual([entry[:3] for entry in before], [(0, 0, "b0t0"), (0, 1, "b1t0")])
        net.crash(0, "")
        self.assertEqual(net.history[:2], before)
        self.assertEqual([entry[:3] for entry in net.history[2:]], [(0, 0, "b0t0")])
        self.assertEqual(net.chain(0), ["b0t0"])

    def test_crash_after_crash(self):
        net = Net(FOUR, [])
        hear_all(net, 50)
        lines = net.keepers[1].journal.lines()
        for torn in self.torn:
            net.crash(1, torn)
            self.assertEqual(net.keepers[1].journal.lines()[:len(lines)], lines)
            net.timeout(1)

    def test_the_history_is_in_the_order_of_the_commits(self):
        net = Net(FOUR, [])
        hear_all(net, 80)
        heights = {who: [entry[1] for entry in net.history if entry[0] == who] for who in range(4)}
        for who in range(4):
            self.assertEqual(heights[who], list(range(len(net.chain(who)))))
            self.assertGreater(len(heights[who]), 5)
        for who, height, block, paper in net.history:
            self.assertEqual(block, net.chain(who)[height])
            self.assertEqual(paper, net.keepers[who].papers[height])
        self.assert_kinds(net)

    def test_the_history_does_not_change_with_the_papers(self):
        net = Net([5], [])
        before = copy.deepcopy(net.history)
        net.keepers[0].papers[0].append("x")
        self.assertEqual(net.history, before)


if __name__ == "__main__":
    unittest.main()
