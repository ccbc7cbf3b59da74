"""Points 13 and 14: journals."""

import itertools
import random
import unittest

from tribunal.errors import BadJournal, Refused
from tribunal.journal import Journal, restore
from tribunal.votes import clash, precommit, prevote, proposal
from tribunal.wire import letter_line

SOME = [
    proposal(0, 0, "a"), prevote(0, 0, "a", None), precommit(0, 0, "a"), prevote(0, 1, "a", 0), precommit(0, 1, None),
    proposal(0, 2, "b"), prevote(1, 0, None, None), precommit(1, 0, None), prevote(1, 4, "b", 2),
]
TORN = (
    "", "0", "0 prevote 0 0", "0 prevote 0 0 a", "0 precommit 3 0 a 1", "3 prevote 0 0 a -\n", "torn", " ",
    "3 prevote 1 9 a 9",
)


def signing(who, statements):
    journal = Journal(who)
    for statement in statements:
        journal.sign(statement)
    return journal


def lines_of(who, statements):
    return [letter_line((who, statement)) for statement in statements]


class Signing(unittest.TestCase):
    """Point 13."""

    def assert_refused(self, journal, statement, vote):
        signed, lines = list(journal.signed), journal.lines()
        with self.assertRaises(Refused) as caught:
            journal.sign(statement)
        self.assertEqual(caught.exception.vote, vote)
        self.assertEqual((journal.signed, journal.lines()), (signed, lines))

    def test_a_new_journal_is_empty(self):
        journal = Journal(7)
        self.assertEqual((journal.who, journal.signed, journal.lines()), (7, [], []))
        self.assertEqual(journal.last_turn(0), 0)

    def test_sign_returns_the_letter(self):
        for who in (0, 3, 10 ** 6):
            journal = Journal(who)
            for many, statement in enumerate(SOME):
                letter = journal.sign(statement)
                self.assertEqual(letter, (who, statement))
                self.assertIs(type(letter), tuple)
                self.assertEqual(journal.signed, SOME[:many + 1])
            self.assertEqual(journal.who, who)

    def test_what_was_signed_before_is_signed_again_and_entered_once(self):
        journal = signing(2, SOME)
        for statement in SOME + SOME:
            self.assertEqual(journal.sign(statement), (2, statement))
        self.assertEqual(journal.signed, SOME)
        self.assertEqual(journal.lines(), lines_of(2, SOME))

    def test_proposals_are_never_refused(self):
        journal = Journal(0)
        for block in ("a", "b", "c"):
            journal.sign(proposal(0, 0, block))
        self.assertEqual(len(journal.signed), 3)

    def test_each_kind_of_clash_is_refused(self):
        self.assert_refused(signing(0, SOME), prevote(0, 0, "b", None), prevote(0, 0, "a", None))
        self.assert_refused(signing(0, SOME), prevote(0, 0, None, None), prevote(0, 0, "a", None))
        self.assert_refused(signing(0, SOME), precommit(0, 0, "b"), precommit(0, 0, "a"))
        self.assert_refused(signing(0, SOME), prevote(0, 2, "b", None), precommit(0, 0, "a"))
        self.assert_refused(signing(0, [prevote(0, 3, "b", 1)]), precommit(0, 2, "a"), prevote(0, 3, "b", 1))
        self.assert_refused(signing(0, SOME), precommit(1, 0, "b"), precommit(1, 0, None))

    def test_the_first_signed_statement_that_clashes(self):
        first, second = precommit(0, 0, "a"), precommit(0, 1, "a")
        self.assert_refused(signing(0, [first, second]), prevote(0, 2, "b", None), first)
        self.assert_refused(signing(0, [second, first]), prevote(0, 2, "b", None), second)
        third = prevote(0, 2, "a", None)
        for statements in itertools.permutations([first, second, third]):
            self.assert_refused(signing(0, statements), prevote(0, 2, "b", None), statements[0])
        later, latest = prevote(0, 5, "b", 1), prevote(0, 4, "b", 0)
        self.assert_refused(signing(0, [proposal(0, 2, "a"), later, latest]), precommit(0, 2, "a"), later)

    def test_it_goes_on_after_it_has_refused(self):
        journal = signing(0, [prevote(0, 0, "a", None)])
        self.assert_refused(journal, prevote(0, 0, "b", None), prevote(0, 0, "a", None))
        self.assertEqual(journal.sign(prevote(0, 1, "b", None)), (0, prevote(0, 1, "b", None)))
        self.assert_refused(journal, prevote(0, 1, "a", 0), prevote(0, 1, "b", None))
        self.assertEqual(journal.signed, [prevote(0, 0, "a", None), prevote(0, 1, "b", None)])

    def test_other_leans_of_one_vote_do_not_clash(self):
        journal = signing(0, [prevote(0, 3, "a", 1), prevote(0, 3, "a", 2), prevote(0, 3, "a", None)])
        self.assertEqual(len(journal.signed), 3)

    def test_nothing_that_is_signed_clashes(self):
        for seed in range(30):
            journal = Journal(0)
            for statement in many_statements(seed):
                clashing = [vote for vote in journal.signed if clash(vote, statement)]
                if clashing:
                    self.assert_refused(journal, statement, clashing[0])
                else:
                    self.assertEqual(journal.sign(statement), (0, statement))
            self.assertGreater(len(journal.signed), 5)

    def test_two_journals_are_apart(self):
        one, other = Journal(0), Journal(0)
        one.sign(prevote(0, 0, "a", None))
        self.assertEqual(other.signed, [])
        other.sign(prevote(0, 0, "b", None))


class Turns(unittest.TestCase):
    """The interface: last_turn."""

    def test_the_latest_turn_of_each_height(self):
        journal = signing(0, SOME + [prevote(3, 0, "a", None)])
        self.assertEqual([journal.last_turn(height) for height in range(5)], [2, 4, 0, 0, 0])

    def test_it_is_not_the_turn_that_was_signed_last(self):
        journal = signing(0, [prevote(0, 5, "a", None), prevote(0, 2, "a", None), precommit(1, 9, None)])
        self.assertEqual(journal.last_turn(0), 5)
        self.assertEqual(journal.last_turn(1), 9)

    def test_each_kind_of_statement_counts(self):
        for statement in (proposal(2, 6, "a"), prevote(2, 6, None, None), precommit(2, 6, None)):
            self.assertEqual(signing(0, [precommit(2, 3, "a"), statement]).last_turn(2), 6)


class Lines(unittest.TestCase):
    """Point 14."""

    def test_the_lines_are_those_of_the_letters_in_order(self):
        journal = signing(12, SOME)
        lines = journal.lines()
        self.assertEqual(lines, lines_of(12, SOME))
        self.assertEqual(lines[:2], ["12 proposal 0 0 a", "12 prevote 0 0 a -"])
        self.assertIs(type(lines), list)

    def test_the_list_of_lines_is_the_callers_own(self):
        journal = signing(1, SOME)
        journal.lines().clear()
        journal.lines().append("1 prevote 9 0 a -")
        self.assertEqual(journal.lines(), lines_of(1, SOME))
        self.assertEqual(journal.signed, SOME)


class Restoring(unittest.TestCase):
    """Point 14."""

    def assert_restored(self, who, lines, statements):
        before = list(lines)
        journal = restore(who, lines)
        self.assertEqual(lines, before)
        self.assertIsInstance(journal, Journal)
        self.assertEqual((journal.who, journal.signed), (who, statements))
        self.assertEqual(journal.lines(), lines_of(who, statements))
        return journal

    def assert_bad(self, who, lines, at):
        before = list(lines)
        with self.assertRaises(BadJournal) as caught:
            restore(who, lines)
        self.assertEqual(caught.exception.at, at, lines)
        self.assertEqual(lines, before)

    def test_the_lines_of_a_journal(self):
        for many in range(len(SOME) + 1):
            self.assert_restored(3, signing(3, SOME[:many]).lines(), SOME[:many])

    def test_the_empty_list(self):
        self.assert_restored(5, [], [])

    def test_many_journals(self):
        for seed in range(20):
            journal = Journal(seed)
            for statement in many_statements(seed):
                try:
                    journal.sign(statement)
                except Refused:
                    pass
            self.assert_restored(seed, journal.lines(), journal.signed)

    def test_a_torn_last_line_is_dropped(self):
        for torn in TORN:
            for many in range(len(SOME) + 1):
                self.assert_restored(3, lines_of(3, SOME[:many]) + [torn], SOME[:many])

    def test_the_beginnings_of_a_line(self):
        whole = letter_line((3, prevote(7, 12, "abc", 10)))
        right = {"3 prevote 7 12 abc 1": 1, whole: 10}
        for end in range(len(whole) + 1):
            begun = whole[:end]
            expected = SOME + ([prevote(7, 12, "abc", right[begun])] if begun in right else [])
            self.assert_restored(3, lines_of(3, SOME) + [begun], expected)

    def test_an_unreadable_line_before_the_last_one(self):
        lines = lines_of(3, SOME)
        for torn in TORN:
            for at in range(len(lines)):
                self.assert_bad(3, lines[:at] + [torn] + lines[at:], at)
            self.assert_bad(3, lines + [torn, torn], len(lines))
            self.assert_bad(3, [torn, torn], 0)

    def test_a_letter_of_another_sender(self):
        lines = lines_of(3, SOME)
        for at in range(len(lines) + 1):
            for other in (0, 2, 30):
                self.assert_bad(3, lines[:at] + [letter_line((other, prevote(9, 0, "a", None)))] + lines[at:], at)
        self.assert_bad(0, ["1 prevote 0 0 a -"], 0)

    def test_a_line_that_clashes_with_an_earlier_one(self):
        lines = lines_of(3, SOME)
        for at in range(2, len(lines) + 1):
            self.assert_bad(3, lines[:at] + ["3 prevote 0 0 b -"] + lines[at:], at)
        self.assert_bad(3, ["3 prevote 0 0 b -"] + lines, 2)
        self.assert_bad(3, ["3 precommit 0 0 a", "3 prevote 0 3 b -"], 1)

    def test_a_repeated_line(self):
        lines = lines_of(3, SOME)
        for first in range(len(lines)):
            for at in range(first + 1, len(lines) + 1):
                self.assert_bad(3, lines[:at] + [lines[first]] + lines[at:], at)

    def test_the_first_invalid_line_counts(self):
        wrong = ["torn", "4 prevote 9 0 a -", "3 prevote 0 0 b -", "3 proposal 0 0 a"]
        for first, second in itertools.product(wrong, repeat=2):
            lines = lines_of(3, SOME)
            self.assert_bad(3, lines[:4] + [first] + lines[4:7] + [second] + lines[7:], 4)
            self.assert_bad(3, lines[:4] + [first, second], 4)
            self.assert_bad(3, lines[:4] + [first] + lines[4:] + ["torn"], 4)

    def test_the_restored_journal_goes_on_refusing(self):
        journal = restore(3, lines_of(3, SOME) + ["torn"])
        with self.assertRaises(Refused) as caught:
            journal.sign(prevote(0, 1, "b", 0))
        self.assertEqual(caught.exception.vote, prevote(0, 1, "a", 0))
        self.assertEqual(journal.sign(SOME[0]), (3, SOME[0]))
        self.assertEqual(journal.signed, SOME)
        self.assertEqual(journal.sign(precommit(2, 0, "c")), (3, precommit(2, 0, "c")))
        self.assertEqual(journal.lines(), lines_of(3, SOME) + ["3 precommit 2 0 c"])
        self.assertEqual(journal.last_turn(1), 4)

    def test_the_restored_journal_is_apart_from_the_lines(self):
        lines = lines_of(3, SOME)
        journal = restore(3, lines)
        lines.clear()
        self.assertEqual(journal.lines(), lines_of(3, SOME))


def many_statements(seed):
    chosen = random.Random(seed)
    made = []
    for _ in range(60):
        height, turn, block = chosen.randrange(2), chosen.randrange(5), chosen.choice(("a", "b", None))
        lean = chosen.choice((None,) + tuple(range(turn)))
        made.append(chosen.choice((
            prevote(height, turn, block, lean), precommit(height, turn, block), proposal(height, turn, "a"),
        )))
    return made


if __name__ == "__main__":
    unittest.main()
