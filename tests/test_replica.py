"""Points 15 to 19: keepers, each rule by itself."""

import unittest

from keepers import hear, keeper_of, started, state
from letters import commit, precommits, prevotes
from tribunal.book import Book
from tribunal.chain import Chain
from tribunal.errors import BadCommand, Refused
from tribunal.journal import Journal, restore
from tribunal.paper import commit_paper, shows
from tribunal.replica import Replica
from tribunal.votes import precommit, prevote, proposal


class Deaf(Journal):
    """A journal that refuses some kinds of statements."""

    def __init__(self, who, kinds):
        Journal.__init__(self, who)
        self.kinds = kinds

    def sign(self, statement):
        if statement[0] in self.kinds:
            raise Refused(statement)
        return Journal.sign(self, statement)


class Asked(Journal):
    """A journal that notes what it is asked to sign."""

    def __init__(self, who):
        Journal.__init__(self, who)
        self.asked = []

    def sign(self, statement):
        self.asked.append(statement)
        return Journal.sign(self, statement)


class KeeperCase(unittest.TestCase):
    def assert_at(self, keeper, height, turn, step):
        self.assertEqual((keeper.height, keeper.turn, keeper.step), (height, turn, step))

    def assert_sends(self, letters, expected):
        self.assertIs(type(letters), list)
        self.assertEqual(letters, expected)

    def give_up(self, keeper, many):
        return [letter for _ in range(many) for letter in keeper.timeout()]

    def to_turn(self, keeper, turn):
        while keeper.turn < turn:
            keeper.timeout()


class Starting(KeeperCase):
    """Point 15."""

    def test_a_keeper_that_has_not_started(self):
        chain, journal = Chain([1, 1, 1, 1], [5]), Journal(2)
        keeper = Replica(2, chain, journal)
        self.assert_at(keeper, 0, 0, "propose")
        self.assertIs(keeper.chain, chain)
        self.assertIs(keeper.journal, journal)
        self.assertEqual(keeper.papers, [])
        self.assertEqual((chain.blocks, journal.signed), ([], []))

    def test_it_is_at_the_height_that_follows_its_blocks(self):
        for blocks in ((), ("a",), ("a", "b", "w0x5")):
            keeper = keeper_of(1, blocks=blocks)
            self.assert_at(keeper, len(blocks), 0, "propose")
            self.assertEqual(keeper.papers, [])

    def test_a_leader_proposes_and_votes_for_it(self):
        keeper = keeper_of(0)
        expected = [(0, proposal(0, 0, "b0t0")), (0, prevote(0, 0, "b0t0", None))]
        self.assert_sends(keeper.start(), expected)
        self.assert_at(keeper, 0, 0, "prevote")
        self.assertEqual(keeper.journal.signed, [letter[1] for letter in expected])

    def test_another_member_waits(self):
        for who in (1, 2, 3):
            keeper = keeper_of(who)
            self.assert_sends(keeper.start(), [])
            self.assert_at(keeper, 0, 0, "propose")
            self.assertEqual(keeper.journal.signed, [])

    def test_the_leader_of_a_later_height(self):
        for height in range(6):
            for who in range(4):
                keeper = keeper_of(who, blocks=["a"] * height)
                expected = []
                if who == height % 4:
                    block = f"b{height}t0"
                    expected = [(who, proposal(height, 0, block)), (who, prevote(height, 0, block, None))]
                self.assert_sends(keeper.start(), expected)

    def test_the_first_turn_is_the_latest_one_of_the_height_in_the_journal(self):
        signed = [
            proposal(0, 3, "a"), prevote(0, 7, "a", None), precommit(0, 2, None), prevote(1, 9, None, None),
            proposal(2, 6, "c"), precommit(3, 4, None),
        ]
        for height, turn in enumerate((7, 9, 6, 4, 0)):
            keeper = keeper_of(1, blocks=["a"] * height, signed=signed)
            if (height + turn) % 4 != 1:
                self.assert_sends(keeper.start(), [])
            else:
                self.assert_sends(keeper.start()[:1], [(1, proposal(height, turn, f"b{height}t{turn}"))])
            self.assertEqual((keeper.height, keeper.turn), (height, turn))

    def test_each_kind_of_statement_counts_for_the_first_turn(self):
        for statement in (proposal(0, 5, "a"), prevote(0, 5, None, None), precommit(0, 5, None)):
            keeper = started(0, signed=[statement])
            self.assert_at(keeper, 0, 5, "propose")

    def test_the_first_turn_after_a_commit(self):
        keeper = started(3, signed=[prevote(1, 5, None, None)])
        hear(keeper, commit([0, 1, 2], 0, "a"))
        self.assert_at(keeper, 1, 5, "propose")
        keeper = started(3)
        self.give_up(keeper, 7)
        self.assert_at(keeper, 0, 2, "prevote")
        hear(keeper, commit([0, 1, 2], 0, "a"))
        self.assert_at(keeper, 1, 0, "propose")

    def test_the_committee_behind_a_block_that_changes_a_weight(self):
        keeper = started(3)
        hear(keeper, commit([0, 1, 2], 0, "w0x10"))
        self.assert_at(keeper, 1, 0, "propose")
        hear(keeper, commit([1, 2], 0, "a", height=1))
        self.assert_at(keeper, 1, 0, "propose")
        hear(keeper, commit([0], 0, "a", height=1))
        self.assert_at(keeper, 2, 0, "propose")
        self.assertEqual(keeper.chain.blocks, ["w0x10", "a"])

    def test_the_weights_of_the_height_before_do_not_matter(self):
        keeper = started(3)
        hear(keeper, commit([0, 1, 2], 0, "w3x10"))
        hear(keeper, commit([0, 1, 2], 0, "a", height=1))
        self.assert_at(keeper, 1, 0, "propose")


class Proposing(KeeperCase):
    """Point 15: what a leader proposes."""

    def test_each_turn_that_it_leads(self):
        keeper = started(2, blocks=["a", "b"])
        self.assert_at(keeper, 2, 0, "prevote")
        found = self.give_up(keeper, 11)
        self.assertEqual([vote for _, vote in found if vote[0] == "proposal"], [proposal(2, 4, "b2t4")])

    def test_the_block_of_the_pool(self):
        keeper = keeper_of(0, grants=[5])
        keeper.submit(("p", 0, 0, 3))
        keeper.submit(("w", 1, 2))
        block = "p0q0r3w1x2"
        self.assert_sends(keeper.start(), [(0, proposal(0, 0, block)), (0, prevote(0, 0, block, None))])

    def test_the_pool_at_the_time_of_the_turn(self):
        keeper = started(1)
        self.give_up(keeper, 2)
        keeper.submit(("w", 1, 2))
        self.assert_sends(keeper.timeout(), [(1, proposal(0, 1, "w1x2")), (1, prevote(0, 1, "w1x2", None))])

    def test_the_block_of_a_certificate_comes_before_the_pool(self):
        keeper = started(1)
        keeper.submit(("w", 1, 2))
        hear(keeper, prevotes([0, 2, 3], 0, "x"))
        self.give_up(keeper, 1)
        self.assert_at(keeper, 0, 0, "precommit")
        self.assert_sends(keeper.timeout(), [(1, proposal(0, 1, "x")), (1, prevote(0, 1, "x", 0))])

    def test_the_certificate_in_the_latest_turn(self):
        for order in ((0, 2), (2, 0)):
            keeper = started(3)
            for turn in order:
                hear(keeper, prevotes([0, 1, 2], turn, "xyz"[turn]))
            self.to_turn(keeper, 3)
            self.assertIn((3, proposal(0, 3, "z")), [(3, vote) for vote in keeper.journal.signed])

    def test_a_certificate_in_a_turn_behind_the_own_one(self):
        keeper = started(1)
        hear(keeper, prevotes([0, 2, 3], 0, "x") + prevotes([0, 2, 3], 5, "y"))
        self.give_up(keeper, 1)
        # Its precommit for x in turn 0 forbids a prevote for y that leans on no certificate.
        self.assert_sends(keeper.timeout(), [(1, proposal(0, 1, "y")), (1, prevote(0, 1, None, None))])

    def test_the_certificate_that_was_found_first_in_one_turn(self):
        for first, second in (("x", "y"), ("y", "x")):
            keeper = started(2)
            hear(keeper, prevotes([0, 3], 1, second) + prevotes([0, 1, 3], 1, first) + prevotes([1], 1, second))
            hear(keeper, prevotes([0, 1, 3], 0, "z"))
            self.to_turn(keeper, 2)
            self.assertIn(proposal(0, 2, first), keeper.journal.signed)

    def test_a_certificate_of_the_height_before_does_not_matter(self):
        keeper = started(1)
        hear(keeper, commit([0, 2, 3], 0, "x"))
        self.assert_at(keeper, 1, 0, "prevote")
        self.assertEqual(keeper.journal.signed[-2:], [proposal(1, 0, "b1t0"), prevote(1, 0, "b1t0", None)])

    def test_a_certificate_among_the_letters_that_were_kept(self):
        keeper = started(1)
        found = hear(keeper, prevotes([0, 2, 3], 2, "y", height=1) + commit([0, 2, 3], 0, "x"))
        self.assert_sends(found, [(1, proposal(1, 0, "y")), (1, prevote(1, 0, "y", None))])

    def test_a_proposal_that_the_journal_refuses_is_not_sent(self):
        keeper = Replica(0, Chain([1, 1, 1, 1], []), Deaf(0, ("proposal",)))
        self.assert_sends(keeper.start(), [])
        self.assert_at(keeper, 0, 0, "propose")
        self.assertEqual(keeper.journal.signed, [])

    def test_the_own_proposal_counts_when_it_is_signed(self):
        # It proposed another block in this turn before it crashed; what it hears of that is too late.
        keeper = started(0, signed=[proposal(0, 0, "x")])
        self.assertEqual(keeper.journal.signed, [proposal(0, 0, v) for v in ("x", "b0t0")] + [
            prevote(0, 0, "b0t0", None),
        ])
        self.assert_sends(keeper.receive((0, proposal(0, 0, "x"))), [])

    def test_an_own_proposal_that_was_kept_counts_before_a_new_one(self):
        keeper = started(1)
        found = hear(keeper, [(1, proposal(1, 0, "x"))] + commit([0, 2, 3], 0, "a"))
        self.assert_sends(found, [(1, proposal(1, 0, "b1t0")), (1, prevote(1, 0, "x", None))])


class Hearing(KeeperCase):
    """Point 16."""

    def test_the_first_proposal_of_the_leader_counts(self):
        keeper = started(1)
        self.assert_sends(keeper.receive((0, proposal(0, 0, "x"))), [(1, prevote(0, 0, "x", None))])
        self.assert_at(keeper, 0, 0, "prevote")
        self.assert_sends(keeper.receive((0, proposal(0, 0, "y"))), [])
        self.assert_sends(keeper.receive((0, proposal(0, 0, "x"))), [])
        self.assert_at(keeper, 0, 0, "prevote")

    def test_proposals_of_others_do_not_count(self):
        keeper = started(1)
        for sender in (1, 2, 3, 4, 8, 100):
            self.assert_sends(keeper.receive((sender, proposal(0, 0, "x"))), [])
        self.assert_at(keeper, 0, 0, "propose")
        self.assert_sends(keeper.receive((0, proposal(0, 0, "y"))), [(1, prevote(0, 0, "y", None))])

    def test_proposals_for_later_turns_are_remembered(self):
        keeper = started(0)
        for letter in ((2, proposal(0, 2, "x")), (2, proposal(0, 2, "y")), (1, proposal(0, 2, "z"))):
            self.assert_sends(keeper.receive(letter), [])
        for letter in ((1, proposal(0, 1, "v")), (2, proposal(0, 6, "w"))):
            self.assert_sends(keeper.receive(letter), [])
        self.assert_at(keeper, 0, 0, "prevote")
        self.give_up(keeper, 1)
        self.assert_sends(keeper.timeout(), [(0, prevote(0, 1, "v", None))])
        self.give_up(keeper, 1)
        self.assert_sends(keeper.timeout(), [(0, prevote(0, 2, "x", None))])

    def test_proposals_for_earlier_turns_do_nothing(self):
        keeper = started(0)
        self.to_turn(keeper, 2)
        self.assert_sends(keeper.receive((1, proposal(0, 1, "x"))), [])
        self.assert_at(keeper, 0, 2, "propose")

    def test_a_proposal_that_is_too_late_for_the_step(self):
        for many, step in ((1, "prevote"), (2, "precommit")):
            keeper = started(1)
            self.give_up(keeper, many)
            self.assert_sends(keeper.receive((0, proposal(0, 0, "x"))), [])
            self.assert_at(keeper, 0, 0, step)

    def test_letters_of_earlier_heights_do_nothing(self):
        keeper = started(0, blocks=["a", "b"])
        before = state(keeper)
        for height in (0, 1):
            for letter in commit([1, 2, 3], 0, "x", height=height) + [(height, proposal(height, 0, "x"))]:
                self.assert_sends(keeper.receive(letter), [])
        self.assertEqual(state(keeper), before)

    def test_letters_of_later_heights_do_nothing_in_this_call(self):
        keeper = started(3)
        before = state(keeper)
        for height in (1, 2, 7):
            for letter in [(height % 4, proposal(height, 0, "x"))] + commit([0, 1, 2], 0, "x", height=height):
                self.assert_sends(keeper.receive(letter), [])
        self.assertEqual(state(keeper), before)

    def test_letters_of_later_heights_are_taken_in_when_the_height_is_reached(self):
        keeper = started(3)
        later = [(2, proposal(2, 0, "z")), (1, proposal(1, 0, "y"))] + prevotes([0, 1], 0, "y", height=1)
        self.assert_sends(hear(keeper, later), [])
        found = hear(keeper, commit([0, 1, 2], 0, "x"))
        self.assert_sends(found, [(3, prevote(1, 0, "y", None)), (3, precommit(1, 0, "y"))])
        self.assert_at(keeper, 1, 0, "precommit")
        found = hear(keeper, precommits([0, 1], 0, "y", height=1))
        self.assert_sends(found, [(3, prevote(2, 0, "z", None))])
        self.assert_at(keeper, 2, 0, "prevote")

    def test_they_are_taken_in_in_the_order_in_which_they_came(self):
        for first, second in (("x", "y"), ("y", "x")):
            keeper = started(3)
            hear(keeper, [(1, proposal(1, 0, first)), (1, proposal(1, 0, second))])
            found = hear(keeper, commit([0, 1, 2], 0, "a"))
            self.assert_sends(found, [(3, prevote(1, 0, first, None))])
            keeper = started(3)
            hear(keeper, prevotes([0, 1, 2], 0, first, height=1) + prevotes([0, 1, 2], 0, second, height=1))
            hear(keeper, commit([0, 1, 2], 0, "a"))
            self.assert_sends(keeper.timeout(), [(3, prevote(1, 0, None, None)), (3, precommit(1, 0, first))])

    def test_a_far_height_is_kept_over_several_commits(self):
        keeper = started(3)
        hear(keeper, [(3, proposal(3, 0, "own")), (2, proposal(2, 0, "z"))])
        found = hear(keeper, commit([0, 1, 2], 0, "x") + commit([0, 1, 2], 0, "y", height=1))
        self.assert_sends(found, [(3, prevote(2, 0, "z", None))])

    def test_own_letters_are_taken_in_when_they_are_signed(self):
        keeper = started(1)
        hear(keeper, prevotes([0, 2], 0, "x"))
        found = keeper.receive((0, proposal(0, 0, "x")))
        self.assert_sends(found, [(1, prevote(0, 0, "x", None)), (1, precommit(0, 0, "x"))])
        found = hear(keeper, precommits([0, 2], 0, "x"))
        self.assertEqual(keeper.chain.blocks, ["x"])
        self.assert_sends(found, [(1, proposal(1, 0, "b1t0")), (1, prevote(1, 0, "b1t0", None))])

    def test_own_letters_that_come_back_do_nothing(self):
        keeper = keeper_of(0)
        sent = keeper.start()
        before = state(keeper)
        self.assert_sends(hear(keeper, sent + sent), [])
        self.assertEqual(state(keeper), before)

    def test_senders_that_are_no_members(self):
        keeper = started(3)
        strangers = commit([4, 5, 6, 7, 2000], 0, "x") + [(4, proposal(0, 0, "x")), (8, proposal(0, 0, "x"))]
        self.assert_sends(hear(keeper, strangers + commit([0, 1], 0, "x")), [])
        self.assert_at(keeper, 0, 0, "propose")
        hear(keeper, commit([4, 5, 6], 0, "x", height=1))
        found = hear(keeper, commit([2], 0, "x"))
        self.assert_sends(found, [])
        self.assert_at(keeper, 1, 0, "propose")

    def test_repeated_letters(self):
        keeper = started(3)
        self.assert_sends(hear(keeper, commit([0, 1], 0, "x") * 3), [])
        self.assert_at(keeper, 0, 0, "propose")
        hear(keeper, commit([0, 1], 0, "y", height=1) * 3)
        hear(keeper, commit([2], 0, "x"))
        self.assert_at(keeper, 1, 0, "propose")
        hear(keeper, commit([2], 0, "y", height=1))
        self.assert_at(keeper, 2, 0, "propose")


class Committing(KeeperCase):
    """Point 17, the first rule."""

    def test_a_block_that_the_book_commits(self):
        keeper = started(3)
        letters = commit([0, 1, 2], 0, "x")
        self.assert_sends(hear(keeper, letters[:-1]), [])
        self.assert_at(keeper, 0, 0, "propose")
        self.assert_sends(keeper.receive(letters[-1]), [])
        self.assert_at(keeper, 1, 0, "propose")
        self.assertEqual((keeper.chain.blocks, keeper.chain.height()), (["x"], 1))
        self.assertEqual(keeper.papers, [precommits([0, 1, 2], 0, "x") + prevotes([0, 1, 2], 0, "x")])

    def test_in_every_step_and_in_whatever_turn(self):
        for many in range(9):
            for turn in (0, 1, 2, 30):
                keeper = started(3)
                self.give_up(keeper, many)
                hear(keeper, commit([0, 1, 2], turn, "x"))
                self.assertEqual(keeper.chain.blocks, ["x"])
                self.assert_at(keeper, 1, 0, "propose")

    def test_the_paper_is_made_from_the_book(self):
        letters = (
            prevotes([2, 0, 1], 1, "x") + prevotes([2], 4, "y") + prevotes([0], 3, "x", 1)
            + precommits([1, 2, 0], 3, "x") + prevotes([2], 3, "x") + prevotes([1], 3, "x", 1)
        )
        book = Book(Chain([1, 1, 1, 1], []).committee(), 0)
        for letter in letters:
            book.add(letter)
        for known in ([], [(3, prevote(0, 0, None, None))]):
            keeper = started(3)
            self.give_up(keeper, len(known))
            hear(keeper, letters)
            self.assertEqual(keeper.papers, [commit_paper(book, "x")])
            self.assertIs(type(keeper.papers[0]), list)
            self.assertIs(shows(book.committee, 0, "x", keeper.papers[0]), True)

    def test_a_commit_goes_before_a_prevote_of_the_height(self):
        keeper = started(3)
        hear(keeper, commit([0, 1, 2], 0, "y", height=1) + commit([0, 1, 2], 0, "x"))
        self.assert_at(keeper, 1, 0, "propose")
        self.assert_sends(keeper.receive((1, proposal(1, 0, "y"))), [])
        self.assert_at(keeper, 2, 0, "propose")
        self.assertEqual(keeper.journal.signed, [])

    def test_at_most_one_commit_in_a_call_of_receive(self):
        keeper = started(3)
        for height in (3, 2, 1):
            hear(keeper, commit([0, 1, 2], 0, "abcd"[height], height=height))
        letters = commit([0, 1, 2], 0, "a")
        hear(keeper, letters)
        self.assertEqual(keeper.chain.blocks, ["a"])
        for letter in letters + [(0, proposal(0, 0, "a")), (1, prevote(5, 0, "x", None))]:
            self.assert_sends(keeper.receive(letter), [])
        self.assertEqual(keeper.chain.blocks, ["a"])
        keeper.receive((9, prevote(1, 0, "z", None)))
        self.assertEqual(keeper.chain.blocks, ["a", "b"])
        keeper.receive((0, prevote(2, 0, "c", None)))
        self.assertEqual(keeper.chain.blocks, ["a", "b", "c"])
        self.assertEqual([len(paper) for paper in keeper.papers], [6, 6, 6])
        self.assert_at(keeper, 3, 0, "precommit")
        keeper.timeout()
        self.assertEqual(keeper.chain.blocks, ["a", "b", "c", "d"])

    def test_what_else_is_possible_is_done_in_the_same_call(self):
        keeper = started(3)
        hear(keeper, [(1, proposal(1, 0, "y"))] + commit([0, 1, 2], 0, "y", height=1))
        found = hear(keeper, commit([0, 1, 2], 0, "x"))
        self.assert_sends(found, [(3, prevote(1, 0, "y", None)), (3, precommit(1, 0, "y"))])
        self.assertEqual(keeper.chain.blocks, ["x"])
        keeper.receive((0, prevote(1, 0, "y", None)))
        self.assertEqual(keeper.chain.blocks, ["x", "y"])

    def alone(self, height, turn):
        block = f"b{height}t{turn}"
        return [(0, made) for made in (
            proposal(height, turn, block), prevote(height, turn, block, None), precommit(height, turn, block),
        )]

    def test_at_most_one_commit_in_a_start(self):
        keeper = keeper_of(0, weights=(5,))
        self.assert_sends(keeper.start(), self.alone(0, 0) + self.alone(1, 0))
        self.assertEqual(keeper.chain.blocks, ["b0t0"])
        self.assert_at(keeper, 1, 0, "precommit")

    def test_at_most_one_commit_in_a_timeout(self):
        keeper = started(0, weights=(5,))
        found = keeper.timeout()
        # It enters the next turn first, and then commits what was there to commit before.
        self.assert_sends(found, [(0, proposal(1, 1, "b1t0"))] + self.alone(2, 0))
        self.assertEqual(keeper.chain.blocks, ["b0t0", "b1t0"])
        self.assert_at(keeper, 2, 0, "precommit")

    def test_the_block_whose_commit_was_found_first(self):
        for (first, turn), (second, other) in ((("y", 4), ("z", 1)), (("z", 1), ("y", 4)), (("y", 2), ("z", 2))):
            keeper = started(3)
            hear(keeper, commit([0, 1, 2], turn, first, height=1) + commit([0, 1, 2], other, second, height=1))
            hear(keeper, commit([0, 1, 2], 0, "x"))
            keeper.timeout()
            self.assertEqual(keeper.chain.blocks, ["x", first])
            self.assertEqual({vote[2:4] for _, vote in keeper.papers[1]}, {(turn, first)})

    def test_the_commands_of_the_block_leave_the_pool(self):
        keeper = started(3)
        for command in (("w", 0, 5), ("w", 1, 5), ("p", 0, 0, 1)):
            keeper.submit(command)
        hear(keeper, commit([0, 1, 2], 0, "w1x5w2x5"))
        hear(keeper, commit([0, 1, 2], 0, "abc", height=1))
        hear(keeper, commit([0, 1, 2], 0, "abc", height=2))
        self.assertEqual(keeper.journal.signed[-1], prevote(3, 0, "w0x5p0q0r1", None))

    def test_the_new_turn_is_led_with_the_new_pool(self):
        keeper = started(1)
        keeper.submit(("w", 0, 5))
        found = hear(keeper, commit([0, 2, 3], 0, "w0x5"))
        self.assert_sends(found, [(1, proposal(1, 0, "b1t0")), (1, prevote(1, 0, "b1t0", None))])

    def test_papers_are_those_of_the_own_commits(self):
        keeper = started(3, blocks=["a", "b"])
        hear(keeper, commit([0, 1, 2], 0, "x", height=2))
        self.assertEqual(keeper.papers, [precommits([0, 1, 2], 0, "x", 2) + prevotes([0, 1, 2], 0, "x", height=2)])
        self.assertEqual(keeper.chain.blocks, ["a", "b", "x"])


class Prevoting(KeeperCase):
    """Point 17, the second rule."""

    def test_without_a_certificate_it_leans_on_none(self):
        keeper = started(2)
        self.assert_sends(keeper.receive((0, proposal(0, 0, "x"))), [(2, prevote(0, 0, "x", None))])
        self.assert_at(keeper, 0, 0, "prevote")

    def at_turn_4(self, certificates):
        """A keeper that has signed no vote yet, and whose book contains the certificates."""
        keeper = started(2, signed=[proposal(0, 4, "q")])
        for found, block in certificates:
            hear(keeper, prevotes([0, 1, 3], found, block))
        return keeper

    def test_the_latest_earlier_turn_with_a_certificate_for_the_block(self):
        for certificates, lean in (
            ([(0, "x")], 0), ([(3, "x")], 3), ([(0, "x"), (2, "x")], 2), ([(3, "x"), (1, "x")], 3),
            ([(1, "x"), (3, "y")], 1), ([(1, "y"), (3, "y")], None), ([(4, "x")], None), ([(5, "x"), (9, "x")], None),
            ([(5, "x"), (2, "x")], 2), ([], None),
        ):
            keeper = self.at_turn_4(certificates)
            found = keeper.receive((0, proposal(0, 4, "x")))
            self.assert_sends(found[:1], [(2, prevote(0, 4, "x", lean))])

    def test_none_where_the_journal_refuses(self):
        keeper = started(2)
        hear(keeper, [(0, proposal(0, 0, "x"))] + prevotes([0, 1], 0, "x"))
        self.assertEqual(keeper.journal.signed, [prevote(0, 0, "x", None), precommit(0, 0, "x")])
        self.assert_sends(keeper.timeout(), [])
        found = keeper.receive((1, proposal(0, 1, "y")))
        self.assert_sends(found, [(2, prevote(0, 1, None, None))])
        self.assert_at(keeper, 0, 1, "prevote")

    def test_the_journal_is_asked_for_none_only_if_it_has_refused(self):
        keeper = Replica(2, Chain([1, 1, 1, 1], []), Asked(2))
        keeper.start()
        hear(keeper, [(0, proposal(0, 0, "x"))] + prevotes([0, 1], 0, "x"))
        keeper.timeout()
        keeper.receive((1, proposal(0, 1, "y")))
        self.assertEqual(keeper.journal.asked, [
            prevote(0, 0, "x", None), precommit(0, 0, "x"), prevote(0, 1, "y", None), prevote(0, 1, None, None),
        ])

    def test_a_later_certificate_frees(self):
        keeper = started(2)
        hear(keeper, [(0, proposal(0, 0, "x"))] + prevotes([0, 1], 0, "x"))
        keeper.timeout()
        hear(keeper, prevotes([0, 1, 3], 1, "y"))
        self.assert_sends(keeper.timeout(), [(2, prevote(0, 1, None, None)), (2, precommit(0, 1, "y"))])
        self.assert_sends(keeper.timeout(), [(2, proposal(0, 2, "y")), (2, prevote(0, 2, "y", 1))])

    def test_a_certificate_in_the_turn_of_the_precommit_is_late_enough(self):
        keeper = started(3, signed=[precommit(0, 2, "x")])
        hear(keeper, prevotes([0, 1, 2], 2, "y"))
        self.to_turn(keeper, 4)
        found = keeper.receive((0, proposal(0, 4, "y")))
        self.assert_sends(found, [(3, prevote(0, 4, "y", 2))])

    def test_nothing_where_the_journal_refuses_none_too(self):
        keeper = started(2, signed=[prevote(0, 0, "x", None)])
        self.assert_sends(keeper.receive((0, proposal(0, 0, "y"))), [])
        self.assert_at(keeper, 0, 0, "prevote")
        self.assertEqual(keeper.journal.signed, [prevote(0, 0, "x", None)])

    def test_what_was_signed_before_is_sent_again(self):
        keeper = started(2, signed=[prevote(0, 0, "x", None)])
        self.assert_sends(keeper.receive((0, proposal(0, 0, "x"))), [(2, prevote(0, 0, "x", None))])
        self.assertEqual(keeper.journal.signed, [prevote(0, 0, "x", None)])

    def test_other_steps_do_not_prevote(self):
        keeper = started(2)
        self.give_up(keeper, 1)
        self.assert_sends(keeper.receive((0, proposal(0, 0, "x"))), [])
        self.give_up(keeper, 1)
        self.assert_sends(keeper.receive((0, proposal(0, 0, "x"))), [])

    def test_a_prevote_goes_before_a_precommit(self):
        keeper = started(2)
        self.assert_sends(hear(keeper, prevotes([0, 1, 3], 0, "y")), [])
        self.assert_at(keeper, 0, 0, "propose")
        found = keeper.receive((0, proposal(0, 0, "x")))
        self.assert_sends(found, [(2, prevote(0, 0, "x", None)), (2, precommit(0, 0, "y"))])
        self.assert_at(keeper, 0, 0, "precommit")


class Precommitting(KeeperCase):
    """Point 17, the third rule."""

    def test_a_certificate_in_the_current_turn(self):
        keeper = started(2)
        hear(keeper, [(0, proposal(0, 0, "x"))] + prevotes([0], 0, "x"))
        self.assert_at(keeper, 0, 0, "prevote")
        self.assert_sends(keeper.receive((1, prevote(0, 0, "x", None))), [(2, precommit(0, 0, "x"))])
        self.assert_at(keeper, 0, 0, "precommit")
        self.assert_sends(keeper.receive((3, prevote(0, 0, "x", None))), [])

    def test_the_one_that_was_found_first(self):
        for first, second in (("x", "y"), ("y", "x")):
            keeper = started(2)
            hear(keeper, prevotes([0, 1], 0, second) + prevotes([0, 1, 3], 0, first) + prevotes([3], 0, second))
            self.assert_sends(keeper.timeout(), [(2, prevote(0, 0, None, None)), (2, precommit(0, 0, first))])

    def test_a_certificate_in_another_turn(self):
        for turn in (0, 1, 3, 4):
            keeper = started(1)
            self.to_turn(keeper, 2)
            self.give_up(keeper, 1)
            self.assert_at(keeper, 0, 2, "prevote")
            self.assert_sends(hear(keeper, prevotes([0, 2, 3], turn, "x")), [])
            self.assert_at(keeper, 0, 2, "prevote")
            self.assert_sends(hear(keeper, prevotes([0, 2, 3], 2, "x")), [(1, precommit(0, 2, "x"))])

    def test_a_certificate_for_a_later_turn_serves_when_the_turn_comes(self):
        keeper = started(0)
        hear(keeper, prevotes([1, 2, 3], 1, "x"))
        self.to_turn(keeper, 1)
        self.assert_at(keeper, 0, 1, "propose")
        self.assert_sends(keeper.timeout(), [(0, prevote(0, 1, None, None)), (0, precommit(0, 1, "x"))])

    def test_votes_for_none_are_no_certificate(self):
        keeper = started(2)
        self.give_up(keeper, 1)
        self.assert_sends(hear(keeper, prevotes([0, 1, 3], 0, None)), [])
        self.assert_at(keeper, 0, 0, "prevote")

    def test_a_precommit_that_the_journal_refuses_is_not_sent(self):
        for signed in (precommit(0, 0, None), precommit(0, 0, "y")):
            keeper = started(2, signed=[signed])
            self.give_up(keeper, 1)
            self.assert_sends(hear(keeper, prevotes([0, 1, 3], 0, "x")), [])
            self.assert_at(keeper, 0, 0, "precommit")

    def test_a_precommit_that_clashes_with_a_later_prevote_is_not_sent(self):
        # The keeper started again in an earlier turn than that of a statement that it signs.
        keeper = keeper_of(2)
        keeper.start()
        keeper.journal.sign(prevote(0, 3, "y", None))
        self.give_up(keeper, 1)
        self.assert_sends(hear(keeper, prevotes([0, 1, 3], 0, "x")), [])
        self.assert_at(keeper, 0, 0, "precommit")

    def test_the_own_precommit_commits(self):
        keeper = started(2)
        hear(keeper, [(0, proposal(0, 0, "x"))] + precommits([0, 1], 0, "x") + prevotes([0], 0, "x"))
        self.assert_sends(keeper.receive((1, prevote(0, 0, "x", None))), [(2, precommit(0, 0, "x"))])
        self.assertEqual(keeper.chain.blocks, ["x"])
        self.assert_at(keeper, 1, 0, "propose")
        self.assertEqual(keeper.papers[0][:3], precommits([0, 1, 2], 0, "x"))


class GivingUp(KeeperCase):
    """Points 18 and 19."""

    def test_each_step(self):
        keeper = started(3)
        self.assert_sends(keeper.timeout(), [(3, prevote(0, 0, None, None))])
        self.assert_at(keeper, 0, 0, "prevote")
        self.assert_sends(keeper.timeout(), [(3, precommit(0, 0, None))])
        self.assert_at(keeper, 0, 0, "precommit")
        self.assert_sends(keeper.timeout(), [])
        self.assert_at(keeper, 0, 1, "propose")

    def test_the_leader_of_the_next_turn_proposes(self):
        keeper = started(1)
        self.give_up(keeper, 2)
        self.assert_sends(keeper.timeout(), [(1, proposal(0, 1, "b0t1")), (1, prevote(0, 1, "b0t1", None))])
        self.assert_at(keeper, 0, 1, "prevote")

    def test_a_proposal_that_is_there_is_voted_for_in_the_next_turn(self):
        keeper = started(3)
        keeper.receive((1, proposal(0, 1, "x")))
        self.give_up(keeper, 2)
        self.assert_sends(keeper.timeout(), [(3, prevote(0, 1, "x", None))])

    def test_a_vote_that_the_journal_refuses_is_not_sent(self):
        keeper = started(3, signed=[prevote(0, 0, "x", None), precommit(0, 0, "x")])
        self.assert_sends(keeper.timeout(), [])
        self.assert_at(keeper, 0, 0, "prevote")
        self.assert_sends(keeper.timeout(), [])
        self.assert_at(keeper, 0, 0, "precommit")
        self.assert_sends(keeper.timeout(), [])
        self.assert_at(keeper, 0, 1, "propose")
        self.assertEqual(len(keeper.journal.signed), 2)

    def test_a_certificate_that_is_there_serves_after_a_timeout(self):
        keeper = started(3)
        hear(keeper, prevotes([0, 1, 2], 0, "x"))
        self.assert_at(keeper, 0, 0, "propose")
        self.assert_sends(keeper.timeout(), [(3, prevote(0, 0, None, None)), (3, precommit(0, 0, "x"))])
        self.assert_at(keeper, 0, 0, "precommit")

    def test_a_timeout_acts_before_a_commit_that_is_there(self):
        keeper = started(3)
        hear(keeper, commit([0, 1, 2], 0, "y", height=1) + commit([0, 1, 2], 0, "x"))
        self.assert_sends(keeper.timeout(), [(3, prevote(1, 0, None, None))])
        self.assertEqual(keeper.chain.blocks, ["x", "y"])
        self.assert_at(keeper, 2, 0, "propose")

    def test_the_leader_of_the_next_turn_may_be_the_same(self):
        keeper = started(0, weights=(1,))
        self.assert_at(keeper, 1, 0, "precommit")
        self.assert_sends(keeper.timeout()[:1], [(0, proposal(1, 1, "b1t0"))])

    def test_many_turns(self):
        keeper = started(3)
        # Three calls for each turn, two for one that it leads.
        found = self.give_up(keeper, 275)
        self.assert_at(keeper, 0, 100, "propose")
        self.assertEqual(len(found), 225)
        proposed = [vote for _, vote in found if vote[0] == "proposal"]
        self.assertEqual(proposed, [proposal(0, turn, f"b0t{turn}") for turn in range(3, 100, 4)])
        own = [vote for _, vote in found]
        self.assertEqual(keeper.journal.signed, own)
        self.assertEqual({sender for sender, _ in found}, {3})

    def test_each_call_returns_only_its_own_letters(self):
        keeper = keeper_of(0)
        first = keeper.start()
        kept = list(first)
        second = keeper.timeout()
        self.assertEqual(first, kept)
        second.append("x")
        first.append("x")
        self.assert_sends(keeper.timeout(), [])
        self.assert_at(keeper, 0, 1, "propose")


class Crashing(KeeperCase):
    """Points 13 to 15: a keeper that starts with a restored journal."""

    def again(self, keeper):
        journal = restore(keeper.journal.who, keeper.journal.lines() + ["torn"])
        return Replica(journal.who, Chain([1, 1, 1, 1], []), journal)

    def test_it_signs_nothing_that_clashes(self):
        keeper = started(2)
        hear(keeper, [(0, proposal(0, 0, "x"))] + prevotes([0, 1], 0, "x"))
        keeper = self.again(keeper)
        self.assert_sends(keeper.start(), [])
        self.assert_at(keeper, 0, 0, "propose")
        self.assert_sends(keeper.receive((0, proposal(0, 0, "y"))), [])
        self.assert_sends(hear(keeper, prevotes([0, 1, 3], 0, "y")), [])
        self.assert_at(keeper, 0, 0, "precommit")
        self.assert_sends(keeper.timeout(), [])
        self.assert_sends(keeper.receive((1, proposal(0, 1, "z"))), [(2, prevote(0, 1, None, None))])

    def test_it_goes_on_with_what_it_hears_again(self):
        keeper = started(2)
        heard = [(0, proposal(0, 0, "x"))] + prevotes([0, 1], 0, "x")
        sent = hear(keeper, heard)
        keeper = self.again(keeper)
        keeper.start()
        self.assert_sends(hear(keeper, heard), sent)
        self.assertEqual(len(keeper.journal.signed), 2)

    def test_it_starts_in_its_latest_turn(self):
        keeper = started(1)
        self.give_up(keeper, 7)
        self.assert_at(keeper, 0, 2, "precommit")
        keeper = self.again(keeper)
        self.assert_sends(keeper.start(), [])
        self.assert_at(keeper, 0, 2, "propose")
        self.assert_sends(self.give_up(keeper, 2), [(1, prevote(0, 2, None, None)), (1, precommit(0, 2, None))])

    def test_its_chain_is_empty_and_its_later_heights_bind(self):
        keeper = started(3)
        hear(keeper, commit([0, 1, 2], 0, "x") + [(1, proposal(1, 0, "y"))])
        self.assertEqual(keeper.journal.signed, [prevote(1, 0, "y", None)])
        keeper = self.again(keeper)
        keeper.start()
        self.assert_at(keeper, 0, 0, "propose")
        hear(keeper, [(1, proposal(1, 0, "z"))] + commit([0, 1, 2], 0, "x"))
        self.assert_at(keeper, 1, 0, "prevote")
        self.assertEqual(keeper.journal.signed, [prevote(1, 0, "y", None)])


class Submitting(KeeperCase):
    def test_wrong_commands(self):
        keeper = started(1)
        before = state(keeper)
        for command in (("d", 0, "0" * 57), ("w", 0), ("p", 0, 0, 10 ** 6), ("x", 1)):
            with self.assertRaises(BadCommand) as caught:
                keeper.submit(command)
            self.assertIs(type(caught.exception), BadCommand)
        self.give_up(keeper, 2)
        self.assertEqual(state(keeper)[4:], before[4:])
        self.assert_sends(keeper.timeout()[:1], [(1, proposal(0, 1, "b0t1"))])

    def test_a_command_alone_does_nothing(self):
        keeper = started(1)
        before = state(keeper)
        self.assertIsNone(keeper.submit(("w", 0, 1)))
        self.assertEqual(state(keeper), before)


if __name__ == "__main__":
    unittest.main()
