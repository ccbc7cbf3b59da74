"""Point 33: clients."""

import copy
import unittest

from letters import commit, orders, precommits, prevotes
from tribunal.chain import Chain
from tribunal.client import Client, dispute
from tribunal.court import holds
from tribunal.errors import BadPaper, BadWeights
from tribunal.paper import accuse

FOUR = [1, 1, 1, 1]
WEIGHS = "w3x10"  # behind it, only members among which is 3 are a quorum


def paper_for(block, height, members=(0, 1, 2), turn=0):
    return commit(members, turn, block, height=height)


def entries_for(blocks, members=(0, 1, 2), start=0):
    return [(block, paper_for(block, start + at, members)) for at, block in enumerate(blocks)]


def client_of(blocks, members=(0, 1, 2), grants=()):
    client = Client(FOUR, grants)
    assert client.catch_up(entries_for(blocks, members)) == len(blocks)
    return client


class ClientCase(unittest.TestCase):
    def assert_follows(self, client, block, paper):
        before, many = copy.deepcopy(paper), client.chain.height()
        blocks = list(client.chain.blocks)
        found = client.follow(block, paper)
        self.assertIs(type(found), int)
        self.assertEqual(found, many + 1)
        self.assertEqual(client.chain.blocks, blocks + [block])
        self.assertEqual(paper, before)

    def assert_refuses(self, client, block, paper):
        before, blocks = copy.deepcopy(paper), list(client.chain.blocks)
        lengths = [len(part) for part in (client.chain.receipts, client.chain.committees, client.chain.ledgers)]
        with self.assertRaises(BadPaper) as caught:
            client.follow(block, paper)
        self.assertIs(type(caught.exception), BadPaper)
        self.assertEqual(client.chain.blocks, blocks)
        parts = (client.chain.receipts, client.chain.committees, client.chain.ledgers)
        self.assertEqual([len(part) for part in parts], lengths)
        self.assertEqual(paper, before)


class Following(ClientCase):
    def test_a_client_without_blocks(self):
        client = Client(FOUR, [3, 4])
        self.assertIsInstance(client.chain, Chain)
        self.assertEqual((client.chain.height(), client.chain.blocks), (0, []))
        self.assertEqual(client.chain.committee().weights, (1, 1, 1, 1))
        self.assertEqual(client.chain.ledgers[0].balances, (3, 4))

    def test_wrong_weights(self):
        with self.assertRaises(BadWeights) as caught:
            Client([1, 0], ())
        self.assertEqual(caught.exception.at, 1)

    def test_blocks_with_papers(self):
        client = Client(FOUR, ())
        for height, block in enumerate(("a", "b", "a", "p0q0r1", "c")):
            self.assert_follows(client, block, paper_for(block, height, turn=height * 3))

    def test_papers_in_any_order_and_with_further_letters(self):
        paper = paper_for("a", 0, (0, 1, 3)) + prevotes([2], 0, "b") + precommits([0, 1, 2], 4, "b")
        for ordered in orders(paper, 5, seed=3):
            self.assert_follows(Client(FOUR, ()), "a", ordered)

    def test_a_paper_that_leans(self):
        paper = prevotes([0, 1, 2], 0, "a") + commit([1, 2, 3], 2, "a", 0)
        self.assert_follows(Client(FOUR, ()), "a", paper)
        self.assert_refuses(Client(FOUR, ()), "a", paper[1:])

    def test_the_commands_are_executed(self):
        client = Client(FOUR, [10, 0])
        self.assert_follows(client, "p0q1r4w9x1", paper_for("p0q1r4w9x1", 0))
        self.assertEqual(client.chain.ledgers[-1].balances, (6, 4))
        self.assertEqual(client.chain.receipts, [(True, False)])

    def test_another_height(self):
        client = Client(FOUR, ())
        self.assert_refuses(client, "a", paper_for("a", 1))
        self.assert_follows(client, "a", paper_for("a", 0))
        for height in (0, 2, 3):
            self.assert_refuses(client, "a", paper_for("a", height))
        self.assert_follows(client, "a", paper_for("a", 1))

    def test_another_block(self):
        client = Client(FOUR, ())
        self.assert_refuses(client, "a", paper_for("b", 0))
        self.assert_refuses(client, "", paper_for("b", 0))
        self.assert_follows(client, "b", paper_for("b", 0))

    def test_no_quorum_and_no_letters(self):
        client = Client(FOUR, ())
        for paper in (
            [], paper_for("a", 0, (0, 1)), prevotes([0, 1, 2], 0, "a"), precommits([0, 1, 2], 0, "a"),
            prevotes([0, 1, 2], 0, "a") + precommits([0, 1], 0, "a"), paper_for("a", 0, (0, 1, 4)),
            prevotes([0, 1, 2], 0, "a") + precommits([0, 1, 2], 1, "a"), paper_for("a", 0, (0, 0, 0, 1)),
        ):
            self.assert_refuses(client, "a", paper)

    def test_a_paper_under_the_new_weights(self):
        client = client_of([WEIGHS])
        self.assertEqual(client.chain.committee().weights, (1, 1, 1, 10))
        self.assert_refuses(client, "a", paper_for("a", 1, (0, 1, 2)))
        self.assert_follows(client, "a", paper_for("a", 1, (3,)))
        self.assert_refuses(client, "b", paper_for("b", 2, (0, 1, 2)))
        self.assert_follows(client, "b", paper_for("b", 2, (0, 1, 3)))

    def test_a_paper_of_the_block_that_changes_the_weights(self):
        client = Client(FOUR, ())
        self.assert_refuses(client, WEIGHS, paper_for(WEIGHS, 0, (3,)))
        self.assert_follows(client, WEIGHS, paper_for(WEIGHS, 0, (0, 1, 2)))


class CatchingUp(ClientCase):
    def catch_up(self, client, entries):
        before, blocks = copy.deepcopy(entries), list(client.chain.blocks)
        many = client.catch_up(entries)
        self.assertIs(type(many), int)
        self.assertEqual(entries, before)
        self.assertEqual(client.chain.blocks, blocks + [block for block, _ in entries[:many]])
        return many

    def test_no_entries(self):
        client = client_of(["a"])
        self.assertEqual(self.catch_up(client, []), 0)
        self.assertEqual(self.catch_up(Client(FOUR, ()), []), 0)

    def test_all_entries(self):
        client = Client(FOUR, ())
        self.assertEqual(self.catch_up(client, entries_for(["a", "b", "c"])), 3)
        self.assertEqual(self.catch_up(client, entries_for(["d"], start=3)), 1)
        self.assertEqual(client.chain.blocks, ["a", "b", "c", "d"])

    def test_until_one_is_refused(self):
        for at in range(4):
            entries = entries_for(["a", "b", "c", "d"])
            entries[at] = (entries[at][0], [])
            client = Client(FOUR, ())
            self.assertEqual(self.catch_up(client, entries), at)

    def test_later_entries_are_not_looked_at(self):
        entries = [("x", [])] + entries_for(["a", "b"])
        client = Client(FOUR, ())
        self.assertEqual(self.catch_up(client, entries), 0)
        self.assertEqual(client.chain.blocks, [])
        # What stands behind the refused entry could not even be read as an entry.
        self.assertEqual(client.catch_up(entries_for(["a"]) + [("b", []), None]), 1)

    def test_entries_that_the_client_has(self):
        client = client_of(["a"])
        self.assertEqual(self.catch_up(client, entries_for(["a", "b"])), 0)

    def test_with_new_weights(self):
        entries = entries_for([WEIGHS, "a"]) + entries_for(["b"], start=2)
        self.assertEqual(self.catch_up(Client(FOUR, ()), entries), 1)
        entries = entries_for([WEIGHS]) + entries_for(["a", "w0x30"], (3,), 1) + entries_for(["b"], (0,), 3)
        self.assertEqual(self.catch_up(Client(FOUR, ()), entries), 4)


class Disputing(ClientCase):
    def assert_dispute(self, one, other, height):
        blocks = (list(one.chain.blocks), list(other.chain.blocks))
        self.assertEqual(dispute(one, other), height)
        self.assertEqual(dispute(other, one), height)
        self.assertEqual((one.chain.blocks, other.chain.blocks), blocks)

    def test_no_blocks_and_the_same_blocks(self):
        self.assert_dispute(client_of([]), client_of([]), None)
        self.assert_dispute(client_of(["a", "b"]), client_of(["a", "b"]), None)
        one = client_of(["a"])
        self.assert_dispute(one, one, None)

    def test_one_has_more_blocks(self):
        self.assert_dispute(client_of([]), client_of(["a", "b"]), None)
        self.assert_dispute(client_of(["a"]), client_of(["a", "b", "c"]), None)

    def test_the_least_height(self):
        self.assert_dispute(client_of(["a"]), client_of(["b"]), 0)
        self.assert_dispute(client_of(["a", "b", "c"]), client_of(["a", "x", "y"]), 1)
        self.assert_dispute(client_of(["a", "b", "c"]), client_of(["a", "b", "y"]), 2)
        self.assert_dispute(client_of(["a", "b"]), client_of(["a", "x", "c", "d"]), 1)
        self.assert_dispute(client_of(["a", "b", "c"]), client_of(["x", "b", "c"]), 0)
        self.assert_dispute(client_of(["a", "b"]), client_of(["b", "a"]), 0)

    def test_the_papers_accuse_a_third_of_the_committee_of_the_height(self):
        shared = entries_for([WEIGHS])
        for members, others in (((3,), (0, 3)), ((0, 1, 3), (3, 2)), ((0, 1, 2, 3), (0, 1, 2, 3))):
            for turn in (0, 2):
                first = ("a", paper_for("a", 1, members))
                second = ("b", paper_for("b", 1, others, turn))
                one, other = Client(FOUR, ()), Client(FOUR, ())
                self.assertEqual((one.catch_up(shared + [first]), other.catch_up(shared + [second])), (2, 2))
                self.assert_dispute(one, other, 1)
                committee = one.chain.committees[1]
                found = accuse(committee, 1, first, second)
                self.assertTrue(all(holds(charge) for charge in found))
                named = [charge.who for charge in found]
                self.assertEqual(named, sorted(set(members) & set(others)))
                self.assertIs(committee.is_third(named), True)


if __name__ == "__main__":
    unittest.main()
