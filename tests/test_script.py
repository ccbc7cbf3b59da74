"""Point 36: scripts."""

import unittest

from nets import Recorder, state
from tribunal.errors import BadScript, BadWeights
from tribunal.net import Net
from tribunal.script import event_line, play, read_event
from tribunal.votes import precommit, prevote, proposal

FOUR = [1, 1, 1, 1]
MOST = 999999999
LINES = {
    "deliver 0 0": ("deliver", 0, 0),
    "deliver 12 3": ("deliver", 12, 3),
    f"deliver {MOST} {MOST}": ("deliver", MOST, MOST),
    "timeout 0": ("timeout", 0),
    "timeout 100": ("timeout", 100),
    "inject 2 proposal 0 1 abc": ("inject", (2, proposal(0, 1, "abc"))),
    "inject 3 prevote 0 4 abc 2": ("inject", (3, prevote(0, 4, "abc", 2))),
    "inject 3 prevote 0 4 - -": ("inject", (3, prevote(0, 4, None, None))),
    "inject 0 precommit 7 0 abc": ("inject", (0, precommit(7, 0, "abc"))),
    "submit 1 p0q1r50": ("submit", 1, ("p", 0, 1, 50)),
    "submit 0 w2x0": ("submit", 0, ("w", 2, 0)),
    "submit 9 d1zg1uz": ("submit", 9, ("d", 1, "g1u")),
    "submit 2 d1zz": ("submit", 2, ("d", 1, "")),
    "submit 3 k0b1v999999": ("submit", 3, ("k", 0, 1, 999999)),
    "submit 3 d0z" + "0" * 56 + "z": ("submit", 3, ("d", 0, "0" * 56)),
    "assist 0 3": ("assist", 0, 3),
    "assist 3 3": ("assist", 3, 3),
    "crash 0": ("crash", 0),
    "crash 15": ("crash", 15),
}


def kinds(part):
    """The kinds of a value and of all that it consists of."""
    if type(part) in (tuple, list):
        return (type(part), [kinds(inner) for inner in part])
    return type(part)


class Writing(unittest.TestCase):
    def test_each_kind_of_event(self):
        for line, event in LINES.items():
            found = event_line(event)
            self.assertIs(type(found), str)
            self.assertEqual(found, line)


class Reading(unittest.TestCase):
    def assert_bad(self, line):
        for at in (0, 7):
            with self.assertRaises(BadScript) as caught:
                read_event(line, at)
            self.assertIs(type(caught.exception), BadScript)
            self.assertEqual(caught.exception.at, at)

    def test_each_line_gives_its_event(self):
        for line, event in LINES.items():
            for at in (0, 3, 10 ** 12):
                found = read_event(line, at)
                self.assertEqual(found, event)
                self.assertEqual(kinds(found), kinds(event))

    def test_a_wrong_word(self):
        for line in (
            "", " ", "x", "delivers 0 0", "Deliver 0 0", "DELIVER 0 0", "deliver x 0", "deliver 0 x", "deliver 0 -",
            "deliver - 0", "timeout x", "timeout -", "time 0", "assist 0 a", "assist a 0", "crash a", "crash -1",
            "submit x w0x1", "submit w0x1 0", "block abc 6", "0 proposal 0 0 abc", "p0q1r50", "deliver +1 0",
            "deliver 0 1.0", "timeout \u0661", "timeout 1\n", "\ttimeout 1", "timeout\t1", "timeout 1_0", "stop",
        ):
            self.assert_bad(line)

    def test_a_missing_word(self):
        for line in LINES:
            words = line.split(" ")
            for many in range(len(words)):
                self.assert_bad(" ".join(words[:many]))
            for at in range(len(words)):
                self.assert_bad(" ".join(words[:at] + words[at + 1:]))

    def test_a_further_word(self):
        for line in LINES:
            for more in ("0", "x", "", "-", "w0x1"):
                self.assert_bad(line + " " + more)
                self.assert_bad(more + " " + line)

    def test_two_spaces_side_by_side(self):
        for line in LINES:
            for at, sign in enumerate(line):
                if sign == " ":
                    self.assert_bad(line[:at] + " " + line[at:])
                    self.assert_bad(line[:at] + "\t" + line[at + 1:])

    def test_integers(self):
        for wrong in ("00", "01", "0123", str(MOST + 1), "0" * 10, "1" * 10, "-1", "+1", "1e3", ""):
            for line in (
                f"deliver {wrong} 0", f"deliver 0 {wrong}", f"timeout {wrong}", f"assist {wrong} 0",
                f"assist 0 {wrong}", f"crash {wrong}", f"submit {wrong} w0x1", f"inject {wrong} proposal 0 1 abc",
                f"inject 2 proposal {wrong} 1 abc",
            ):
                self.assert_bad(line)
        self.assertEqual(read_event(f"assist {MOST} 0", 0), ("assist", MOST, 0))

    def test_the_line_of_a_letter_that_cannot_be_read(self):
        for line in (
            "", "0", "2 proposal 0 1", "2 proposal 0 1 -", "2 proposal 0 1 Abc", "2 vote 0 1 abc", "2 prevote 0 1 a",
            "2 prevote 0 1 a 1", "2 prevote 0 1 a 2", "2 precommit 0 1 a -", "x proposal 0 1 a", "2 precommit 0 1 1a",
            "2 precommit 0 1 " + "a" * 61, "deliver 0 0", "2  proposal 0 1 abc",
        ):
            self.assert_bad("inject " + line)

    def test_the_text_of_a_command_that_does_not_fit(self):
        for text in (
            "p0q1", "p0q1r50p0q1r50", "w0x1w0x1", "abc", "", "p00q1r5", "p0q1r1000000", "d0z", "d0zxz", "d0zgzz", "w0x",
            "d0z" + "0" * 57 + "z", "d0z" + "0" * 100 + "z", "w0x1 ", "W0x1", "p0q1r-1", "x0", "b0t0", "w0x1a",
        ):
            self.assert_bad("submit 0 " + text)
        text = "d999999z" + "0" * 51 + "z"
        self.assertEqual(read_event("submit 0 " + text, 0), ("submit", 0, ("d", 999999, "0" * 51)))

    def test_long_integers_are_written_and_not_read(self):
        self.assert_bad(event_line(("timeout", MOST + 1)))


class Playing(unittest.TestCase):
    def assert_bad(self, lines, at, liars=(2, 3)):
        before = list(lines)
        with self.assertRaises(BadScript) as caught:
            play(FOUR, list(liars), (), lines)
        self.assertIs(type(caught.exception), BadScript)
        self.assertEqual(caught.exception.at, at)
        self.assertEqual(lines, before)

    def test_no_lines(self):
        net = play(FOUR, [2], [5], [])
        self.assertIsInstance(net, Net)
        self.assertEqual(state(net), state(Net(FOUR, [2], [5])))
        self.assertEqual(net.keepers[0].chain.ledgers[0].balances, (5,))

    def test_the_net_after_the_events(self):
        lines = [
            "deliver 0 1", "inject 2 prevote 0 0 b0t0 -", "deliver 3 0", "timeout 1", "submit 0 w1x5", "crash 0",
            "assist 0 1", "deliver 1 0", "timeout 0",
        ]
        before = list(lines)
        net = play(FOUR, [2, 3], (), lines)
        self.assertEqual(lines, before)
        expected = Net(FOUR, [2, 3])
        expected.deliver(0, 1)
        expected.inject((2, prevote(0, 0, "b0t0", None)))
        expected.deliver(3, 0)
        expected.timeout(1)
        expected.submit(0, ("w", 1, 5))
        expected.crash(0, "")
        expected.assist(0, 1)
        expected.deliver(1, 0)
        expected.timeout(0)
        self.assertEqual(state(net), state(expected))

    def test_a_command_gets_into_a_block(self):
        lines = ["submit 1 w1x5", "timeout 1", "timeout 1", "timeout 1"]
        net = play(FOUR, [2, 3], (), lines)
        self.assertEqual(net.bag[-2:], [(1, proposal(0, 1, "w1x5")), (1, prevote(0, 1, "w1x5", None))])

    def test_a_line_that_is_no_event(self):
        right = ["timeout 0", "inject 2 prevote 0 0 - -", "deliver 0 1", "timeout 1"]
        for wrong in ("", "timeout", "timeout 00", "timeout 0 0", "crash x", "submit 0 p0q1", "inject 2 prevote 0 0 -"):
            for at in range(len(right) + 1):
                self.assert_bad(right[:at] + [wrong] + right[at:], at)
                self.assert_bad(right[:at] + [wrong] + right[at:] + [wrong], at)

    def test_the_bag_has_no_such_letter(self):
        self.assertEqual(len(play(FOUR, [2, 3], (), ["deliver 1 1"]).bag), 2)
        self.assert_bad(["deliver 2 1"], 0)
        self.assert_bad(["deliver 0 1", "deliver 2 1", "deliver 3 1"], 2)
        self.assert_bad([f"deliver {MOST} 1"], 0)
        self.assert_bad(["deliver 2 2"], 0)
        self.assert_bad(["deliver 0 1"], 0, liars=(0, 1))

    def test_a_member_that_does_not_exist(self):
        for line in (
            "deliver 0 4", "timeout 4", "submit 4 w0x1", "assist 4 0", "assist 0 4", "assist 4 4", "crash 4",
            f"timeout {MOST}", "timeout 16",
        ):
            self.assert_bad([line], 0)
            self.assert_bad(["timeout 0", "crash 1", line, "timeout 9"], 2)
            self.assert_bad([line], 0, liars=(0, 1, 2, 3))

    def test_a_letter_of_no_liar(self):
        for sender in (0, 1, 4, 5, MOST):
            line = f"inject {sender} prevote 0 0 - -"
            self.assert_bad([line], 0)
            self.assert_bad(["inject 2 prevote 0 0 - -", "inject 3 prevote 0 0 - -", line], 2)
        self.assert_bad(["inject 4 prevote 0 0 - -"], 0, liars=(2, 4))

    def test_nothing_happens_at_a_liar(self):
        lines = ["deliver 0 2", "timeout 3", "submit 2 w0x1", "assist 2 0", "assist 0 3", "assist 2 3", "crash 2"]
        self.assertEqual(state(play(FOUR, [2, 3], (), lines)), state(Net(FOUR, [2, 3])))

    def test_an_assist_that_does_nothing_can_happen(self):
        self.assertEqual(state(play(FOUR, [2, 3], (), ["assist 0 1", "assist 0 0"])), state(Net(FOUR, [2, 3])))

    def test_a_crash_leaves_the_empty_text_as_a_torn_line(self):
        lines = ["deliver 0 1", "crash 1", "timeout 1", "crash 1", "crash 0"]
        net = play(FOUR, [2, 3], (), lines)
        self.assertEqual(net.keepers[1].journal.signed, [prevote(0, 0, "b0t0", None)])
        self.assertEqual((net.keepers[1].turn, net.keepers[1].step), (0, "propose"))
        self.assertEqual(net.bag[-2:], net.bag[:2])

    def test_wrong_weights(self):
        with self.assertRaises(BadWeights) as caught:
            play([1, 0], [], (), ["timeout 0"])
        self.assertEqual(caught.exception.at, 1)

    def test_the_given_lists_stay(self):
        weights, liars, grants, lines = [1, 2, 3], [2], [4], ["timeout 0", "crash 1"]
        play(weights, liars, grants, lines)
        self.assertEqual((weights, liars, grants, lines), ([1, 2, 3], [2], [4], ["timeout 0", "crash 1"]))

    def test_many_events_of_many_nets(self):
        for seed in range(40):
            weights, liars = ((FOUR, [2, 3]), (FOUR, [1]), ([3, 1, 2], [2]), ([1], []))[seed % 4]
            recorder = Recorder(weights, liars, (9, 9), seed)
            recorder.run(40)
            lines = [event_line(event) for event in recorder.events]
            self.assertEqual([read_event(line, 0) for line in lines], recorder.events)
            self.assertEqual(state(play(weights, liars, (9, 9), lines)), state(recorder.net))


if __name__ == "__main__":
    unittest.main()
