"""Points 27 and 28: commands, and how blocks write them."""

import itertools
import random
import re
import unittest

from tribunal.commands import block_of, checked_text, command_text, commands_of
from tribunal.errors import BadCommand

SIGNS = "0123456789ginasmtcehlujfyo"
MOST = 999999
TEXTS = {
    "p0q0r0": ("p", 0, 0, 0),
    "p1q2r3": ("p", 1, 2, 3),
    "p999999q999999r999999": ("p", MOST, MOST, MOST),
    "p10q0r100000": ("p", 10, 0, 100000),
    "w0x0": ("w", 0, 0),
    "w15x999999": ("w", 15, MOST),
    "w999999x1": ("w", MOST, 1),
    "d0zz": ("d", 0, ""),
    "d999999zz": ("d", MOST, ""),
    "d3zg2a1uz": ("d", 3, "g2a1u"),
    "d3z007z": ("d", 3, "007"),
    "d12z" + SIGNS + "z": ("d", 12, SIGNS),
    "k0b0v0": ("k", 0, 0, 0),
    "k7b12v345": ("k", 7, 12, 345),
    "k999999b999999v999999": ("k", MOST, MOST, MOST),
}
NUMBER = "(?:0|[1-9][0-9]{0,5})"
COMMAND = f"(?:p{NUMBER}q{NUMBER}r{NUMBER}|w{NUMBER}x{NUMBER}|d{NUMBER}z[{SIGNS}]*z|k{NUMBER}b{NUMBER}v{NUMBER})"


def text_of(commands):
    return "".join(command_text(command) for command in commands)


def some_commands(seed, many):
    chosen = random.Random(seed)

    def number():
        return chosen.choice((0, 1, 9, 10, 123, 99999, 100000, MOST, chosen.randrange(10 ** 6)))

    made = []
    for _ in range(many):
        code = "".join(chosen.choice(SIGNS) for _ in range(chosen.randrange(12)))
        made.append(chosen.choice((
            ("p", number(), number(), number()), ("w", number(), number()),
            ("d", number(), code), ("k", number(), number(), number()),
        )))
    return made


class Writing(unittest.TestCase):
    """Point 27."""

    def test_each_kind_of_command(self):
        for text, command in TEXTS.items():
            self.assertEqual(command_text(command), text)
            self.assertEqual(checked_text(command), text)

    def test_each_sign_of_a_code(self):
        for sign in SIGNS:
            self.assertEqual(command_text(("d", 4, sign)), f"d4z{sign}z")
            self.assertEqual(checked_text(("d", 4, sign * 3)), f"d4z{sign * 3}z")

    def test_command_text_checks_no_limit(self):
        self.assertEqual(command_text(("p", 1000000, 0, 12345678)), "p1000000q0r12345678")
        self.assertEqual(command_text(("d", 1, "0" * 100)), "d1z" + "0" * 100 + "z")


class Checking(unittest.TestCase):
    """Point 28 and the interface: which commands fit."""

    def assert_bad(self, command):
        with self.assertRaises(BadCommand):
            checked_text(command)

    def test_sixty_characters_fit_and_one_more_does_not(self):
        for account, most in ((0, 56), (10, 55), (MOST, 51)):
            text = checked_text(("d", account, "a" * most))
            self.assertEqual(text, f"d{account}z{'a' * most}z")
            self.assertEqual(len(text), 60)
            self.assert_bad(("d", account, "a" * (most + 1)))
            self.assert_bad(("d", account, "a" * 500))

    def test_numbers_that_are_out_of_range(self):
        for wrong in (-1, -MOST, 1000000, 1234567, 10 ** 20):
            for command in (("p", 1, 2, 3), ("w", 1, 2), ("k", 1, 2, 3)):
                for at in range(1, len(command)):
                    self.assert_bad(command[:at] + (wrong,) + command[at + 1:])
            self.assert_bad(("d", wrong, ""))
            self.assert_bad(("d", wrong, "1y"))

    def test_codes_with_other_signs(self):
        for sign in map(chr, range(200)):
            if sign not in SIGNS:
                self.assert_bad(("d", 1, sign))
                self.assert_bad(("d", 1, "1" + sign + "a"))
        for code in ("z", "zz", "azb", "zd1z", "zp1q2r3", "zw0x0d1z", "\u0663", "A", "-1"):
            self.assert_bad(("d", 1, code))

    def test_what_is_not_a_command(self):
        for wrong in (
            (), ("",), ("p",), ("p", 1), ("p", 1, 2), ("p", 1, 2, 3, 4), ("w", 1), ("w", 1, 2, 3), ("d", 1),
            ("d", 1, "", ""), ("d", 1, "", 2), ("k", 1, 2), ("k", 1, 2, 3, 4), ("x", 1, 2), ("P", 1, 2, 3),
            ("pp", 1, 2, 3),
            ("z", 1), ("q", 1, 2, 3), ("p1q2r3",), ("p", "1", 2, 3), ("p", 1, 2, "03"), ("d", "1", "a"), ("d", 1, 5),
            ("d", 1, None), ("p", None, 1, 2), ("deliver", 0, 0),
        ):
            self.assert_bad(wrong)

    def test_what_is_checked_is_written_by_its_text(self):
        for seed in range(30):
            for command in some_commands(seed, 30):
                self.assertEqual(checked_text(command), command_text(command))
                self.assertEqual(commands_of(checked_text(command)), [command])


class Reading(unittest.TestCase):
    """Point 28."""

    def assert_read(self, commands):
        text = text_of(commands)
        read = commands_of(text)
        self.assertIs(type(read), list)
        self.assertEqual(read, commands, text)
        for command, expected in zip(read, commands):
            self.assertEqual([type(part) for part in command], [type(part) for part in expected])
            self.assertIs(type(command), tuple)

    def assert_none(self, text):
        self.assertEqual(commands_of(text), [], text)

    def test_the_empty_text(self):
        self.assertEqual(commands_of(""), [])

    def test_one_two_and_many_commands(self):
        for text, command in TEXTS.items():
            self.assertEqual(commands_of(text), [command])
        for one, other in itertools.product(TEXTS.values(), repeat=2):
            self.assert_read([one, other])
        self.assert_read(list(TEXTS.values()) * 4)
        for seed in range(100):
            self.assert_read(some_commands(seed, seed))

    def test_no_text_of_commands(self):
        for text in (
            "a", "abc", "b0t0", "q1", "0", "00", "z", " ", "P1q2r3", "p", "w", "d", "k", "pqr", "pq2r3", "p1r3", "p1q2",
            "p1q2r", "p1qr3", "p1q2x3", "p1w2r3", "p1q2v3", "w1", "wx", "w1x", "wx1", "w1q1", "k1b2", "k1b2v", "kb2v3",
            "k1v2b3", "k1b2r3", "d1", "dz", "d1z", "d1za", "dzz", "d1zbz", "d1zaqz", "d1zazz", "d1zz1", "z1zz", "d-1zz",
            "p-1q2r3", "p+1q2r3", "p 1q2r3", "p1q2r3 ", " p1q2r3", "p1q2r3\n", "p1 q2r3", "p1q2r3,w0x0", "p1.0q2r3",
            "p\u0663q2r3", "p1q2r\u00b2", "d1z\u0663z", "d1zAz", "d1z-z",
        ):
            self.assert_none(text)

    def test_leading_zeros(self):
        for text in (
            "p01q2r3", "p1q00r3", "p1q2r03", "w00x0", "w0x01", "d00zz", "d07zaz", "k0b00v0", "k1b2v007", "p000000q0r0",
        ):
            self.assert_none(text)

    def test_six_digits_and_seven(self):
        self.assert_read([("p", 123456, 999999, 100000), ("w", 999999, 100000), ("k", 100000, 1, 999999)])
        self.assert_read([("d", 999999, "1234567")])
        for text in (
            "p1000000q2r3", "p1q1234567r3", "p1q2r1000000", "w1000000x0", "w0x1000000", "d1000000zz", "k1b2v1234567",
        ):
            self.assert_none(text)

    def test_something_behind_the_last_command(self):
        for text in TEXTS:
            for more in ("z", "a", "p", "w1", "q0", "zz", "-", " ", "d1z", "\n"):
                self.assert_none(text + more)
                self.assert_none(text + text + more)

    def test_something_before_or_between_the_commands(self):
        for text in TEXTS:
            for more in ("z", "a", "1", "q0", " "):
                self.assert_none(more + text)
                self.assert_none("w1x1z" + text)

    def test_a_missing_end(self):
        for text in TEXTS:
            for end in range(1, len(text)):
                cut = text[:end]
                if re.fullmatch(COMMAND, cut):
                    continue
                self.assert_none(cut)
                self.assert_none("w1x1" + cut)

    def test_codes_with_letters_that_stand_in_command_texts(self):
        for code in ("a", "c", "e", "g1i2", "same", "a1c2e3", "n0j", "fly", SIGNS, "0", "000001", "1234567890"):
            self.assert_read([("d", 1, code)])
            self.assert_read([("d", 1, code), ("w", 1, 2), ("d", 2, code), ("k", 1, 2, 3), ("d", 3, "")])
        for code in ("p1q2r3", "w", "d", "k", "b", "v", "x", "q", "r"):
            self.assert_none(f"d1z{code}z")

    def test_a_code_ends_at_its_first_end(self):
        self.assertEqual(commands_of("d1zad2zz"), [])
        self.assertEqual(commands_of("d1zazd2zcz"), [("d", 1, "a"), ("d", 2, "c")])
        self.assertEqual(commands_of("d1zzd2zz"), [("d", 1, ""), ("d", 2, "")])

    def test_different_lists_have_different_texts(self):
        some = [
            ("p", 1, 0, 1), ("p", 10, 1, 0), ("w", 0, 1), ("w", 0, 10), ("d", 0, ""), ("d", 0, "0"), ("d", 1, "e"),
            ("k", 0, 1, 0), ("k", 0, 1, 1),
        ]
        seen = {}
        for many in range(1, 5):
            for commands in itertools.product(some, repeat=many):
                text = text_of(commands)
                self.assertNotIn(text, seen)
                seen[text] = commands
                if many < 4:
                    self.assertEqual(commands_of(text), list(commands))

    def test_changed_texts(self):
        read = 0
        for seed in range(300):
            chosen = random.Random(seed)
            text = text_of(some_commands(seed, 1 + seed % 4))
            for _ in range(20):
                at = chosen.randrange(len(text) + 1)
                sign = chosen.choice(("", "0", "1", "z", "a", "q", "x", "p"))
                changed = text[:at] + sign + text[at + chosen.randrange(2):]
                found = commands_of(changed)
                if re.fullmatch(COMMAND + "+", changed):
                    read += 1
                    self.assertEqual(text_of(found), changed)
                    self.assertTrue(all(re.fullmatch(COMMAND, command_text(command)) for command in found))
                else:
                    self.assertEqual(found, [], changed)
        self.assertGreater(read, 500)

    def test_a_text_that_is_longer_than_a_block(self):
        self.assertEqual(commands_of("w0x1" * 5000), [("w", 0, 1)] * 5000)
        self.assertEqual(commands_of("d1z" + "a" * 5000 + "z"), [("d", 1, "a" * 5000)])
        self.assert_none("w0x1" * 5000 + "w")


class Blocks(unittest.TestCase):
    """Point 28: the block of a list of commands."""

    def assert_block(self, commands, many):
        before = list(commands)
        made = block_of(commands)
        self.assertIs(type(made), tuple)
        self.assertEqual(made, (text_of(commands[:many]), many))
        self.assertEqual(commands, before)
        self.assertLessEqual(len(made[0]), 60)
        self.assertEqual(commands_of(made[0]), commands[:many])

    def test_the_empty_list(self):
        self.assertEqual(block_of([]), ("", 0))

    def test_all_commands_fit(self):
        for text, command in TEXTS.items():
            self.assertEqual(block_of([command]), (text, 1))
        self.assert_block([("w", 0, 1), ("d", 0, "1y"), ("p", 0, 0, 0)], 3)

    def test_exactly_sixty_characters(self):
        self.assert_block([("w", 0, 1)] * 15, 15)
        self.assert_block([("w", 0, 1)] * 16, 15)
        self.assert_block([("w", 0, 1)] * 200, 15)
        self.assert_block([("w", 0, 10)] + [("w", 0, 1)] * 15, 14)
        self.assert_block([("d", 0, "a" * 50), ("p", 0, 0, 0)], 2)
        self.assert_block([("d", 0, "a" * 51), ("p", 0, 0, 0)], 1)
        self.assert_block([("p", 0, 0, 0), ("d", 0, "a" * 50)], 2)
        self.assert_block([("p", 0, 0, 0), ("d", 0, "a" * 51)], 1)
        self.assert_block([("d", 0, "a" * 52), ("w", 0, 1), ("w", 0, 1)], 2)

    def test_a_shorter_one_behind_does_not_come_in(self):
        self.assert_block([("d", 0, "a" * 40), ("k", MOST, MOST, MOST), ("w", 0, 1), ("w", 0, 2)], 1)
        self.assert_block([("w", 0, 1), ("d", 0, "a" * 53), ("w", 0, 1)], 1)

    def test_the_first_command_does_not_fit(self):
        self.assert_block([("d", 0, "a" * 57)], 0)
        self.assert_block([("d", 0, "a" * 57), ("w", 0, 1)], 0)

    def test_many_lists(self):
        for seed in range(200):
            commands = some_commands(seed, 12)
            fitting = [many for many in range(13) if len(text_of(commands[:many])) <= 60]
            self.assert_block(commands, max(fitting))


if __name__ == "__main__":
    unittest.main()
