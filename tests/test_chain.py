"""Point 31: chains."""

import random
import unittest

from tribunal.chain import Chain
from tribunal.commands import block_of, command_text, commands_of
from tribunal.committee import Committee
from tribunal.errors import BadWeights
from tribunal.ledger import Ledger, after_command, first_ledger


def state(chain):
    """All that a chain shows, as plain values."""
    ledgers = [(ledger.balances, ledger.codes, ledger.stores) for ledger in chain.ledgers]
    committees = [committee.weights for committee in chain.committees]
    return (list(chain.blocks), list(chain.receipts), committees, ledgers)


class ChainCase(unittest.TestCase):
    def extend(self, chain, block, receipts):
        """Extends a chain, and checks what holds for each block."""
        before = state(chain)
        chain.extend(block)
        now = state(chain)
        self.assertEqual(now[0], before[0] + [block])
        self.assertEqual(now[1], before[1] + [receipts])
        for part in (2, 3):
            self.assertEqual(now[part][:-1], before[part])
        self.assert_kinds(chain)

    def assert_kinds(self, chain):
        many = len(chain.blocks)
        self.assertEqual(chain.height(), many)
        lengths = [len(part) for part in (chain.receipts, chain.committees, chain.ledgers)]
        self.assertEqual(lengths, [many, many + 1, many + 1])
        for part in (chain.blocks, chain.receipts, chain.committees, chain.ledgers):
            self.assertIs(type(part), list)
        for receipts in chain.receipts:
            self.assertIs(type(receipts), tuple)
            self.assertTrue(all(type(receipt) is bool for receipt in receipts))
        self.assertTrue(all(isinstance(committee, Committee) for committee in chain.committees))
        self.assertTrue(all(isinstance(ledger, Ledger) for ledger in chain.ledgers))
        self.assertIs(chain.committee(), chain.committees[-1])

    def weights(self, chain):
        return [committee.weights for committee in chain.committees]

    def balances(self, chain):
        return [ledger.balances for ledger in chain.ledgers]


class Beginning(ChainCase):
    def test_a_chain_without_blocks(self):
        for grants in ([], (), [0], [5, 7], (5, 7)):
            chain = Chain([3, 1], grants)
            self.assertEqual((chain.height(), chain.blocks, chain.receipts), (0, [], []))
            self.assertEqual(self.weights(chain), [(3, 1)])
            self.assertEqual(len(chain.ledgers), 1)
            self.assertTrue(chain.ledgers[0] == first_ledger(grants))
            self.assertEqual(chain.committee().weights, (3, 1))
            self.assert_kinds(chain)

    def test_wrong_weights(self):
        wrong = [([], 0), ([0], 0), ([1, 10 ** 12 + 1], 1), ([1, 2, -1, 0], 2), ([1] * 17, 16)]
        for weights, at in wrong:
            for grants in ([], [1, 2]):
                with self.assertRaises(BadWeights) as caught:
                    Chain(weights, grants)
                self.assertEqual(caught.exception.at, at)
        self.assertEqual(Chain([10 ** 12] * 16, []).committee().size, 16)

    def test_the_given_lists_stay_and_do_not_matter_any_more(self):
        weights, grants = [1, 2], [10, 20]
        chain = Chain(weights, grants)
        self.extend(chain, "p0q1r4w0x9", (True, True))
        self.assertEqual((weights, grants), ([1, 2], [10, 20]))
        weights.append(7)
        grants[0] = 0
        self.extend(chain, "p0q1r4w1x5w2x1", (True, True, False))
        self.assertEqual(self.weights(chain), [(1, 2), (9, 2), (9, 5)])
        self.assertEqual(self.balances(chain), [(10, 20), (6, 24), (2, 28)])


class Extending(ChainCase):
    def test_a_text_without_commands(self):
        chain = Chain([1, 1], [5])
        for block in ("abc", "b0t0", "p0q0", "p0q0r01", "p0q0r1b", "w0x5a"):
            self.extend(chain, block, ())
        self.assertEqual(set(self.weights(chain)), {(1, 1)})
        self.assertEqual(set(self.balances(chain)), {(5,)})

    def test_commands_are_executed_in_order(self):
        chain = Chain([1], [10, 20])
        self.extend(chain, "p0q1r5p1q0r25p1q0r1", (True, True, False))
        self.extend(chain, "p1q0r1p0q1r30p1q0r1", (False, True, True))
        self.assertEqual(self.balances(chain), [(10, 20), (30, 0), (1, 29)])

    def test_programs_and_calls_within_one_block(self):
        chain = Chain([1], [10, 20])
        self.extend(chain, "k0b1v5d1zg1ugyzk0b1v5k0b1v16d1zz", (False, True, True, False, True))
        self.extend(chain, "k0b1v5d1zg1uzk0b1v7k1b1v8", (False, True, True, True))
        last = chain.ledgers[-1]
        self.assertEqual((last.balances, last.codes, last.stores), ((15, 15), ("", "g1u"), ((), ((1, 8),))))
        middle = chain.ledgers[1]
        self.assertEqual((middle.balances, middle.codes, middle.stores), ((15, 15), ("", ""), ((), ())))

    def test_a_block_of_refused_commands(self):
        chain = Chain([1], [0])
        self.extend(chain, "p0q0r1p0q1r0k0b0v0d1zz", (False, False, False, False))
        self.assertTrue(chain.ledgers[1] == chain.ledgers[0])

    def test_many_blocks_keep_all_earlier_entries(self):
        chain = Chain([1, 1, 1], [100, 0])
        for many in range(1, 41):
            self.extend(chain, f"p0q1r1w{many % 3}x{many}", (True, True))
        self.assertEqual(self.balances(chain), [(100 - many, many) for many in range(41)])
        first = [(1, 1, 1), (1, 1, 1), (1, 1, 2), (3, 1, 2), (3, 4, 2)]
        self.assertEqual(self.weights(chain)[:5], first)

    def test_two_chains_of_the_same_beginning_are_apart(self):
        one, other = Chain([1, 1], [5, 5]), Chain([1, 1], [5, 5])
        self.extend(one, "p0q1r5w0x7", (True, True))
        self.assertEqual(state(other), state(Chain([1, 1], [5, 5])))


class Weights(ChainCase):
    def test_a_new_weight_holds_behind_the_block(self):
        chain = Chain([1, 1, 1, 1], [5])
        self.extend(chain, "w1x7", (True,))
        self.assertEqual(self.weights(chain), [(1, 1, 1, 1), (1, 7, 1, 1)])
        self.assertEqual(chain.committee().total, 10)
        self.extend(chain, "w3x999999", (True,))
        self.extend(chain, "abc", ())
        self.assertEqual(self.weights(chain)[2:], [(1, 7, 1, 999999)] * 2)

    def test_the_least_weight_and_none(self):
        chain = Chain([5, 5], [])
        self.extend(chain, "w0x1w1x0", (True, False))
        self.assertEqual(chain.committee().weights, (1, 5))

    def test_the_last_member_and_the_one_behind_it(self):
        for size in (1, 2, 15, 16):
            chain = Chain([3] * size, [])
            self.extend(chain, f"w{size - 1}x4w{size}x4w999999x4w{size}x0", (True, False, False, False))
            self.assertEqual(chain.committee().weights, (3,) * (size - 1) + (4,))

    def test_two_new_weights_of_one_member(self):
        chain = Chain([5, 5], [])
        self.extend(chain, "w0x9w0x2", (True, True))
        self.assertEqual(chain.committee().weights, (2, 5))
        self.extend(chain, "w0x9w0x0w1x4", (True, False, True))
        self.assertEqual(self.weights(chain), [(5, 5), (2, 5), (9, 4)])

    def test_the_weight_that_a_member_has(self):
        chain = Chain([5, 5], [])
        self.extend(chain, "w0x5", (True,))
        self.assertEqual(self.weights(chain), [(5, 5), (5, 5)])

    def test_the_ledger_behind_a_new_weight_is_equal(self):
        chain = Chain([5, 5], [4, 4])
        self.extend(chain, "d0zg1uzk1b0v6", (True, True))
        self.extend(chain, "w0x7w1x8", (True, True))
        self.assertTrue(chain.ledgers[2] == chain.ledgers[1])

    def test_weights_among_other_commands(self):
        chain = Chain([5, 5], [4, 4])
        self.extend(chain, "p0q1r3w1x2p0q1r3w2x2p1q0r7", (True, True, False, False, True))
        self.assertEqual(chain.committee().weights, (5, 2))
        self.assertEqual(chain.ledgers[-1].balances, (8, 0))

    def test_large_weights_of_the_beginning_stay(self):
        chain = Chain([10 ** 12] * 3, [])
        self.extend(chain, "w1x1", (True,))
        self.assertEqual(chain.committee().weights, (10 ** 12, 1, 10 ** 12))


class Rows(ChainCase):
    def blocks(self, chosen, many):
        def number():
            return chosen.choice((0, 1, 2, 3, 9, 40))

        for _ in range(many):
            commands = [chosen.choice((
                ("p", number(), number(), number()), ("w", number(), number()),
                ("d", number(), chosen.choice(("", "gy", "g1u"))), ("k", number(), number(), number()),
            )) for _ in range(6)]
            yield chosen.choice((block_of(commands)[0], block_of(commands)[0], "abc"))

    def test_each_block_as_the_document_says(self):
        for seed in range(20):
            chain = Chain([3, 1, 2, 4], [20, 0, 5])
            weights, ledger = [3, 1, 2, 4], first_ledger([20, 0, 5])
            for block in self.blocks(random.Random(seed), 30):
                receipts = []
                for command in commands_of(block):
                    self.assertIn(command_text(command), block)
                    if command[0] == "w":
                        done = command[1] < 4 and command[2] >= 1
                        if done:
                            weights[command[1]] = command[2]
                    else:
                        ledger, done = after_command(ledger, command)
                    receipts.append(done)
                self.extend(chain, block, tuple(receipts))
                self.assertEqual(chain.committee().weights, tuple(weights))
                self.assertTrue(chain.ledgers[-1] == ledger)
            self.assertEqual({sum(balances) for balances in self.balances(chain)}, {25})


if __name__ == "__main__":
    unittest.main()
