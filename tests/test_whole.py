"""What is promised over the whole program: points 1, 22, 26 and 30, and the nine errors."""

import unittest

from letters import commit
from nets import (
    Recorder, assert_promises, assert_third, committee_at, fork, forked_height, give, hear_all, to_turn,
)
from tribunal.archive import archive_lines, read_archive
from tribunal.chain import Chain
from tribunal.client import Client, dispute
from tribunal.commands import checked_text
from tribunal.committee import Committee
from tribunal.court import charges
from tribunal.errors import (
    BadArchive, BadCommand, BadJournal, BadLine, BadPaper, BadScript, BadWeights, Forged, Refused, TribunalError,
)
from tribunal.book import Book
from tribunal.journal import Journal, restore
from tribunal.net import Net
from tribunal.paper import accuse, commit_paper
from tribunal.pool import Pool
from tribunal.replica import Replica
from tribunal.script import play, read_event
from tribunal.votes import precommit, prevote, proposal
from tribunal.wire import read_letter

FOUR = [1, 1, 1, 1]


def agree(chains):
    """Whether each chain is the beginning of the longest one."""
    longest = max(chains, key=len)
    return all(chain == longest[:len(chain)] for chain in chains)


class Forks(unittest.TestCase):
    """Liars with more than a third of the weight."""

    def assert_fork(self, net, weights, height, named):
        self.assertEqual(forked_height(net), height)
        assert_promises(self, net, weights)
        committee = committee_at(net, weights, height)
        one, other = [(block, paper) for _, at, block, paper in net.history if at == height][:2]
        for first, second in ((one, other), (other, one)):
            found = accuse(committee, height, first, second)
            self.assertEqual([charge.who for charge in found], named)
            assert_third(self, net, committee, found)

    def test_in_one_turn(self):
        net = Net(FOUR, [2, 3])
        for who, block in ((0, "x"), (1, "y")):
            to_turn(net, who, 2)
            fork(net, who, block, 0, 2)
        self.assertEqual([net.chain(0), net.chain(1)], [["x"], ["y"]])
        self.assert_fork(net, FOUR, 0, [2, 3])

    def test_in_different_turns(self):
        net = Net(FOUR, [2, 3])
        for who, block, turn in ((0, "x", 2), (1, "y", 3)):
            to_turn(net, who, turn)
            fork(net, who, block, 0, turn)
        self.assertEqual([net.chain(0), net.chain(1)], [["x"], ["y"]])
        self.assert_fork(net, FOUR, 0, [2, 3])

    def test_with_a_certificate_on_which_the_later_votes_lean(self):
        net = Net(FOUR, [2, 3])
        to_turn(net, 0, 2)
        fork(net, 0, "x", 0, 2)
        # The keeper 1 joins a certificate for y in turn 3, and all lean on it in turn 6.
        to_turn(net, 1, 3)
        give(net, (3, proposal(0, 3, "y")), 1)
        for liar in (2, 3):
            give(net, (liar, prevote(0, 3, "y", None)), 1)
        to_turn(net, 1, 6)
        give(net, (2, proposal(0, 6, "y")), 1)
        for liar in (2, 3):
            give(net, (liar, prevote(0, 6, "y", 3)), 1)
            give(net, (liar, precommit(0, 6, "y")), 1)
        self.assertEqual([net.chain(0), net.chain(1)], [["x"], ["y"]])
        self.assertIn((1, prevote(0, 6, "y", 3)), net.bag)
        self.assert_fork(net, FOUR, 0, [2, 3])

    def test_one_heavy_liar_behind_a_new_weight(self):
        net = Net(FOUR, [3])
        for who in (0, 1, 2):
            to_turn(net, who, 3)
            give(net, (3, proposal(0, 3, "w3x9")), who)
        # The keepers alone are a quorum; they hear each other's votes, and nothing of the next height.
        for at in range(60):
            for who in (0, 1, 2):
                if at < len(net.bag) and net.bag[at][1][1] == 0:
                    net.deliver(at, who)
        for who, block in ((0, "x"), (1, "y"), (2, "z")):
            self.assertEqual(net.chain(who), ["w3x9"])
            for made in (prevote(1, 5, block, None), precommit(1, 5, block)):
                give(net, (3, made), who)
            self.assertEqual(net.chain(who), ["w3x9", block])
        self.assert_fork(net, FOUR, 1, [3])

    def test_at_several_heights_the_least_one(self):
        net = Net([1, 1, 90], [2])
        for height, blocks in enumerate((("a", "a"), ("w1x5", "w1x5"), ("x", "y"), ("z", "z"), ("u", "v"))):
            for who, block in enumerate(blocks):
                for made in (prevote(height, 0, block, None), precommit(height, 0, block)):
                    give(net, (2, made), who)
        self.assertEqual([len(net.chain(who)) for who in (0, 1)], [5, 5])
        self.assert_fork(net, [1, 1, 90], 2, [2])

    def test_a_keeper_that_forgot_its_chain(self):
        net = Net([1, 9], [1])
        for block in ("x", "y"):
            for made in (prevote(0, 1, block, None), precommit(0, 1, block)):
                give(net, (1, made), 0)
            net.crash(0, "torn")
        self.assertEqual([entry[:3] for entry in net.history], [(0, 0, "x"), (0, 0, "y")])
        self.assert_fork(net, [1, 9], 0, [1])

    def test_clients_that_follow_the_papers_dispute(self):
        net = Net(FOUR, [2, 3])
        for who, block in ((0, "x"), (1, "y")):
            to_turn(net, who, 2)
            fork(net, who, block, 0, 2)
        clients = [Client(FOUR, ()), Client(FOUR, ())]
        for who, client in enumerate(clients):
            lines = archive_lines(net.chain(who), net.keepers[who].papers)
            self.assertEqual(client.catch_up(read_archive(FOUR, (), lines)), 1)
        self.assertEqual(dispute(*clients), 0)


class Nets(unittest.TestCase):
    """Many nets with all kinds of events."""

    def run_net(self, seed, weights, liars):
        recorder = Recorder(weights, liars, (9, 9), seed)
        recorder.run(60)
        assert_promises(self, recorder.net, weights)
        self.assert_sums(recorder.net)
        return recorder.net

    def assert_sums(self, net):
        for keeper in net.keepers.values():
            for ledger in keeper.chain.ledgers:
                self.assertEqual(sum(ledger.balances), 18)
                self.assertGreaterEqual(min(ledger.balances), 0)

    def test_liars_with_more_than_a_third(self):
        forks, later = 0, 0
        for seed in range(200):
            weights, liars = ((FOUR, [2, 3]), (FOUR, [1, 2]), ([2, 1, 1, 3], [3]), ([1, 1, 1, 1, 3], [4, 0]))[seed % 4]
            height = forked_height(self.run_net(seed, weights, liars))
            forks += height is not None
            later += height is not None and height > 0
        self.assertGreater(forks, 20)
        self.assertGreater(later, 3)

    def test_liars_with_at_most_a_third(self):
        commits = 0
        for seed in range(200):
            cases = ((FOUR, [3]), ([1, 1, 1], [2]), ([3, 1, 2, 4], [2, 1]), ([2, 2, 1], [2]), (FOUR, []))
            weights, liars = cases[seed % len(cases)]
            net = self.run_net(seed, weights, liars)
            # Behind a block that changes a weight, the liars may have more than a third.
            if not any("w" in block for _, _, block, _ in net.history):
                self.assertIsNone(forked_height(net))
                self.assertTrue(agree([net.chain(who) for who in net.keepers]))
                commits += len(net.history)
        self.assertGreater(commits, 100)

    def test_no_keeper_is_charged_by_a_paper_of_the_history(self):
        for seed in range(40):
            net = self.run_net(seed, FOUR, [2, 3])
            for _, _, _, paper in net.history:
                self.assertEqual([c for c in charges(Committee(FOUR), paper) if c.who in net.keepers], [])


class GoingOn(unittest.TestCase):
    """Keepers that hear everything."""

    def test_without_liars(self):
        for weights in ([1], [1, 1], [1, 1, 1], FOUR, [5, 1, 1], [1, 2, 3, 4, 5], [1] * 16, [10 ** 12] * 3):
            net = Net(weights, [])
            for at in range(600):
                if at == len(net.bag):
                    for who in range(net.size):
                        net.timeout(who)
                for who in range(net.size):
                    net.deliver(at, who)
            chains = [net.chain(who) for who in range(net.size)]
            self.assertTrue(agree(chains))
            self.assertGreater(min(len(chain) for chain in chains), 5)
            self.assertEqual(chains[0][:3], ["b0t0", "b1t0", "b2t0"])
            assert_promises(self, net, weights)

    def test_with_silent_liars_of_less_than_a_third(self):
        for weights, liars in ((FOUR, [0]), (FOUR, [2]), ([1] * 7, [1, 5]), ([5, 5, 1, 4], [3])):
            net = Net(weights, liars)
            at = 0
            while min(net.keepers[who].height for who in net.keepers) < 8:
                at = hear_all(net, 50, at)
                if at == len(net.bag):
                    for who in range(net.size):
                        net.timeout(who)
                self.assertLess(at, 3000)
            self.assertTrue(agree([net.chain(who) for who in net.keepers]))
            assert_promises(self, net, weights)

    def test_with_crashes(self):
        net = Net(FOUR, [])
        at = 0
        for who in range(4):
            at = hear_all(net, 30, at)
            net.crash(who, "")
            while net.assist(who, (who + 1) % 4):
                pass
            hear_all(net, at)
        hear_all(net, 400)
        for _ in range(30):
            for who in range(4):
                net.timeout(who)
            hear_all(net, 400, at)
        assert_promises(self, net, FOUR)
        self.assertTrue(agree([net.chain(who) for who in range(4)]))
        self.assertGreater(min(len(net.chain(who)) for who in range(4)), 8)

    def test_commands_are_executed_everywhere(self):
        net = Net(FOUR, [], [10, 0])
        commands = [("p", 0, 1, 4), ("d", 1, "gy"), ("k", 0, 1, 3), ("w", 2, 5), ("p", 1, 0, 9)]
        for command in commands:
            for who in range(4):
                net.submit(who, command)
        hear_all(net, 120)
        for who in range(4):
            chain = net.keepers[who].chain
            self.assertIn("p0q1r4d1zgyzk0b1v3w2x5p1q0r9", chain.blocks)
            self.assertEqual(len([receipts for receipts in chain.receipts if receipts]), 1)
            self.assertIn((True, True, True, True, False), chain.receipts)
            self.assertEqual(chain.ledgers[-1].balances, (9, 1))
            self.assertEqual(chain.committee().weights, (1, 1, 5, 1))
        assert_promises(self, net, FOUR)


class Errors(unittest.TestCase):
    """Each error is exactly of the class that the point names."""

    def assert_error(self, kind, work, *parts, **attributes):
        with self.assertRaises(ValueError) as caught:
            work(*parts)
        self.assertIs(type(caught.exception), kind)
        self.assertIsInstance(caught.exception, TribunalError)
        self.assertEqual(vars(caught.exception), attributes)

    def test_bad_weights(self):
        for work in (
            Committee, lambda weights: Chain(weights, ()), lambda weights: Client(weights, ()),
            lambda weights: Net(weights, []), lambda weights: read_archive(weights, (), []),
            lambda weights: play(weights, [], (), []),
        ):
            self.assert_error(BadWeights, work, [1, 0], at=1)
            self.assert_error(BadWeights, work, [1] * 18, at=16)
        for work in (Committee, lambda weights: Chain(weights, ())):
            self.assert_error(BadWeights, work, [], at=0)

    def test_bad_line(self):
        self.assert_error(BadLine, read_letter, "0 vote", at=1)

    def test_bad_journal(self):
        self.assert_error(BadJournal, restore, 0, ["0 precommit 0 0 a", "x", "0 precommit 0 1 a"], at=1)
        self.assert_error(BadJournal, restore, 0, ["0 precommit 0 0 a", "0 precommit 0 0 b"], at=1)

    def test_bad_archive(self):
        self.assert_error(BadArchive, read_archive, FOUR, (), ["x", ""], at=0)
        self.assert_error(BadArchive, read_archive, FOUR, (), ["block a 1", "x", ""], at=1)
        self.assert_error(BadArchive, read_archive, FOUR, (), ["block a 0", ""], at=0)

    def test_bad_script(self):
        self.assert_error(BadScript, read_event, "inject x", 5, at=5)
        self.assert_error(BadScript, read_event, "submit 0 x", 5, at=5)
        self.assert_error(BadScript, play, FOUR, [3], (), ["timeout 0", "inject 1 precommit 0 0 a"], at=1)

    def test_bad_command(self):
        keeper = Replica(0, Chain(FOUR, ()), Journal(0))
        keeper.start()
        net = Net(FOUR, [])
        for work in (checked_text, Pool().submit, keeper.submit, lambda command: net.submit(0, command)):
            self.assert_error(BadCommand, work, ("d", 0, "0" * 57))
            self.assert_error(BadCommand, work, ("w", 0, -1))

    def test_refused(self):
        journal = Journal(0)
        journal.sign(precommit(0, 0, "a"))
        self.assert_error(Refused, journal.sign, precommit(0, 0, "b"), vote=precommit(0, 0, "a"))

    def test_bad_paper(self):
        committee = Committee(FOUR)
        keeper = Replica(0, Chain(FOUR, ()), Journal(0))
        keeper.start()
        self.assert_error(BadPaper, commit_paper, Book(committee, 0), "a")
        self.assert_error(BadPaper, accuse, committee, 0, ("a", []), ("b", commit([0, 1, 2], 0, "b")))
        self.assert_error(BadPaper, Client(FOUR, ()).follow, "a", [])
        self.assert_error(BadPaper, keeper.adopt, "a", [])

    def test_forged(self):
        self.assert_error(Forged, Net(FOUR, [3]).inject, (0, precommit(0, 0, "a")))
        self.assert_error(Forged, Net(FOUR, [3]).inject, (4, precommit(0, 0, "a")))


if __name__ == "__main__":
    unittest.main()
