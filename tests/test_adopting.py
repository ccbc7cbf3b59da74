"""Point 34: adopting blocks; and points 15 to 19 and 34 over long rows of calls."""

import copy
import random
import unittest

from keepers import ListedKeeper, hear, keeper_of, started, state
from letters import commit, mixed_letters, precommits, prevotes
from tribunal.errors import BadPaper
from tribunal.paper import shows
from tribunal.votes import precommit, prevote, proposal


class Adopting(unittest.TestCase):
    def assert_refuses(self, keeper, block, paper):
        before, kept = state(keeper), copy.deepcopy(paper)
        with self.assertRaises(BadPaper) as caught:
            keeper.adopt(block, paper)
        self.assertIs(type(caught.exception), BadPaper)
        self.assertEqual(state(keeper), before)
        self.assertEqual(paper, kept)

    def assert_adopts(self, keeper, block, paper, expected):
        height, kept = keeper.height, copy.deepcopy(paper)
        found = keeper.adopt(block, paper)
        self.assertIs(type(found), list)
        self.assertEqual(found, expected)
        self.assertEqual((keeper.height, keeper.chain.height()), (height + 1, height + 1))
        self.assertEqual(keeper.chain.blocks[-1], block)
        self.assertEqual(paper, kept)
        self.assertEqual(keeper.papers[-1], paper)
        self.assertIs(type(keeper.papers[-1]), list)

    def test_a_block_with_a_paper(self):
        keeper = started(3)
        self.assert_adopts(keeper, "x", commit([0, 1, 2], 0, "x"), [])
        self.assertEqual((keeper.turn, keeper.step), (0, "propose"))
        self.assert_adopts(keeper, "y", commit([0, 1, 2], 7, "y", height=1), [])
        self.assert_adopts(keeper, "z", commit([0, 1, 2], 1, "z", height=2), [
            (3, proposal(3, 0, "b3t0")), (3, prevote(3, 0, "b3t0", None)),
        ])
        self.assertEqual(keeper.chain.blocks, ["x", "y", "z"])
        self.assertEqual(len(keeper.papers), 3)

    def test_the_given_paper_is_kept_as_it_is(self):
        paper = prevotes([3], 2, "q") + commit([2, 0, 1, 3], 4, "x") + [(0, proposal(0, 0, "x"))]
        keeper = started(3)
        self.assert_adopts(keeper, "x", paper, [])
        kept = list(paper)
        paper.clear()
        self.assertEqual(keeper.papers, [kept])

    def test_what_is_no_paper(self):
        right = commit([0, 1, 2], 0, "x")
        for many in (0, 2):
            keeper = started(3)
            for _ in range(many):
                keeper.timeout()
            for block, paper in (
                ("x", []), ("x", right[:-1]), ("x", right[1:]), ("y", right),
                ("x", commit([0, 1, 2], 0, "x", height=1)),
                ("x", commit([0, 1, 4], 0, "x")), ("x", commit([0, 1, 2], 1, "x", 0)), ("", right),
            ):
                self.assert_refuses(keeper, block, paper)
            self.assert_adopts(keeper, "x", right, [])
            self.assert_refuses(keeper, "x", right)

    def test_what_the_book_holds_does_not_complete_a_paper(self):
        keeper = started(3)
        hear(keeper, prevotes([0, 1, 2], 0, "x"))
        self.assert_refuses(keeper, "x", precommits([0, 1, 2], 0, "x"))
        self.assert_adopts(keeper, "x", commit([0, 1, 2], 0, "x"), [])

    def test_the_committee_of_the_height(self):
        keeper = started(3)
        self.assert_refuses(keeper, "w1x10", commit([1], 0, "w1x10"))
        self.assert_adopts(keeper, "w1x10", commit([0, 1, 2], 0, "w1x10"), [])
        self.assertEqual(keeper.chain.committee().weights, (1, 10, 1, 1))
        self.assert_refuses(keeper, "y", commit([0, 2, 3], 0, "y", height=1))
        self.assert_adopts(keeper, "y", commit([1], 0, "y", height=1), [])

    def test_letters_that_were_kept_are_taken_in(self):
        keeper = started(3)
        hear(keeper, [(1, proposal(1, 0, "y"))] + prevotes([0, 1], 0, "y", height=1))
        self.assert_adopts(keeper, "x", commit([0, 1, 2], 0, "x"), [
            (3, prevote(1, 0, "y", None)), (3, precommit(1, 0, "y")),
        ])
        self.assertEqual((keeper.turn, keeper.step), (0, "precommit"))

    def test_no_other_commit_in_this_call(self):
        keeper = started(3)
        hear(keeper, [(1, proposal(1, 0, "y"))] + commit([0, 1, 2], 0, "y", height=1))
        self.assert_adopts(keeper, "x", commit([0, 1, 2], 0, "x"), [
            (3, prevote(1, 0, "y", None)), (3, precommit(1, 0, "y")),
        ])
        self.assertEqual(keeper.chain.blocks, ["x"])
        keeper.timeout()
        self.assertEqual(keeper.chain.blocks, ["x", "y"])

    def test_it_goes_before_a_commit_that_is_there(self):
        keeper = started(3)
        hear(keeper, commit([0, 1, 2], 0, "y", height=1) + commit([0, 1, 2], 0, "x"))
        self.assert_adopts(keeper, "z", commit([0, 1, 2], 0, "z", height=1), [])
        self.assertEqual(keeper.chain.blocks, ["x", "z"])

    def test_the_commands_of_the_block_leave_the_pool(self):
        keeper = started(1)
        keeper.submit(("w", 1, 5))
        keeper.submit(("w", 2, 5))
        self.assert_adopts(keeper, "w1x5", commit([0, 2, 3], 0, "w1x5"), [
            (1, proposal(1, 0, "w2x5")), (1, prevote(1, 0, "w2x5", None)),
        ])

    def test_the_first_turn_and_the_journal(self):
        keeper = started(3, signed=[prevote(1, 5, "y", None)])
        self.assert_adopts(keeper, "x", commit([0, 1, 2], 0, "x"), [])
        self.assertEqual((keeper.turn, keeper.step), (5, "propose"))
        self.assertEqual(keeper.receive((2, proposal(1, 5, "z"))), [])
        self.assertEqual((keeper.turn, keeper.step), (5, "prevote"))

    def test_in_each_step(self):
        for many in range(8):
            keeper = started(3)
            for _ in range(many):
                keeper.timeout()
            self.assert_adopts(keeper, "x", commit([0, 1, 2], 0, "x"), [])
            self.assertEqual((keeper.turn, keeper.step), (0, "propose"))


class Rows(unittest.TestCase):
    """Rows of calls, as the words of the document have it."""

    blocks = ("a", "a", "w1x9", None)

    def some_calls(self, chosen, seed):
        """Letters of all kinds, quorums of them, commands and calls of `timeout` and `adopt`."""
        letters = mixed_letters(seed, 30, blocks=self.blocks, heights=(0, 0, 1, 1, 2, 3))
        calls = [("receive", letter) for letter in letters] + [("timeout",)] * 30
        for height in range(4):
            for turn in range(4):
                block, members = chosen.choice("ab"), chosen.sample(range(4), 3)
                lean = chosen.choice((None, None, turn - 1 if turn else None))
                calls.append(("receive", ((height + turn) % 4, proposal(height, turn, chosen.choice("abc")))))
                votes = commit(members, turn, block, lean, height)
                many = chosen.choice((2, 3, 3, 5, 6))
                calls.extend(("receive", letter) for letter in votes[:many])
            calls.append(("adopt", "a", commit(chosen.sample(range(4), 3), 0, "a", height=height)))
            calls.append(("submit", ("p", height, 0, chosen.randrange(3))))
        chosen.shuffle(calls)
        return calls + calls[:40]

    def test_rows_of_calls(self):
        reached, kinds, adopted = {}, {}, 0
        for seed in range(250):
            chosen = random.Random(seed)
            who, weights = seed % 4, chosen.choice(((1, 1, 1, 1), (3, 2, 2, 2), (1, 9, 1, 1)))
            signed = chosen.choice(((), (prevote(0, 1, "a", None), precommit(0, 1, "a"), prevote(1, 2, None, None))))
            keeper, listed = keeper_of(who, weights, (), signed), ListedKeeper(who, weights, (), signed)
            self.assertEqual(keeper.start(), listed.start())
            for name, *parts in self.some_calls(chosen, seed):
                if name == "adopt":
                    if not shows(listed.chain.committee(), listed.chain.height(), *parts):
                        self.assertRaises(BadPaper, keeper.adopt, *parts)
                        continue
                    adopted += 1
                found = getattr(keeper, name)(*parts)
                self.assertEqual(found, getattr(listed, name)(*parts))
                self.assertEqual(state(keeper), listed.state())
                for _, statement in found or ():
                    kinds[statement[0], statement[3] is None] = kinds.get((statement[0], statement[3] is None), 0) + 1
            reached[keeper.height] = reached.get(keeper.height, 0) + 1
        self.assertGreater(sum(many for height, many in reached.items() if height > 0), 100)
        self.assertGreater(adopted, 30)
        for kind in (("proposal", False), ("prevote", False), ("prevote", True), ("precommit", False)):
            self.assertGreater(kinds[kind], 50)


if __name__ == "__main__":
    unittest.main()
