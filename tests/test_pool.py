"""Point 32: pools, with points 27 and 28 for what fits."""

import random
import unittest

from tribunal.commands import block_of, command_text, commands_of
from tribunal.errors import BadCommand
from tribunal.pool import Pool

MOST = 999999
SOME = [
    ("p", 0, 1, 50), ("w", 2, 7), ("d", 1, "g1u"), ("k", 0, 1, 3), ("d", 0, ""), ("p", MOST, MOST, MOST),
    ("d", 3, "0" * 56), ("w", 0, 0),
]


def filled(commands):
    pool = Pool()
    for command in commands:
        pool.submit(command)
    return pool


class PoolCase(unittest.TestCase):
    def assert_waiting(self, pool, commands):
        self.assertIs(type(pool.waiting), list)
        self.assertEqual(pool.waiting, commands)
        block = pool.block()
        self.assertIs(type(block), str)
        self.assertEqual(block, block_of(commands)[0])
        self.assertEqual(pool.waiting, commands)


class Submitting(PoolCase):
    def test_an_empty_pool(self):
        self.assert_waiting(Pool(), [])
        self.assertEqual(Pool().block(), "")

    def test_commands_wait_in_the_order_in_which_they_came(self):
        for commands in (SOME, SOME[::-1], SOME[3:] + SOME[:3]):
            pool = Pool()
            for many, command in enumerate(commands):
                pool.submit(command)
                self.assert_waiting(pool, commands[:many + 1])

    def test_each_one_waits_once(self):
        pool = filled(SOME + SOME[::-1] + SOME[:2])
        self.assert_waiting(pool, SOME)

    def test_commands_that_are_nearly_the_same(self):
        near = [("p", 0, 1, 5), ("p", 1, 0, 5), ("p", 0, 1, 6), ("k", 0, 1, 5), ("d", 0, "1"), ("d", 0, "11")]
        self.assert_waiting(filled(near), near)

    def test_two_pools_are_apart(self):
        one, other = filled(SOME), Pool()
        self.assertEqual((len(one.waiting), other.waiting), (len(SOME), []))

    def test_wrong_commands(self):
        wrong = [
            ("d", 0, "0" * 57), ("d", MOST, "g" * 52), ("d", 0, "z"), ("d", 0, "x"), ("d", 0, "G"), ("d", 0, " "),
            ("d", 0, "1z2"), ("p", 10 ** 6, 0, 0), ("p", 0, 0, -1), ("p", 0, 0), ("p", 0, 0, 0, 0), ("w", 1),
            ("k", 0, 0, 10 ** 6), ("w", 0, 10 ** 6), ("x", 0, 0), ("", 0), (), ("d", 10 ** 6, ""),
        ]
        for waiting in ([], SOME[:3]):
            for command in wrong:
                pool = filled(waiting)
                with self.assertRaises(BadCommand) as caught:
                    pool.submit(command)
                self.assertIs(type(caught.exception), BadCommand)
                self.assert_waiting(pool, waiting)

    def test_sixty_characters_fit(self):
        for command in (("d", 0, "0" * 56), ("d", MOST, "g" * 51)):
            pool = filled([command])
            self.assert_waiting(pool, [command])
            self.assertEqual(len(pool.block()), 60)


class Blocks(PoolCase):
    def test_the_commands_of_a_block_are_the_first_ones_that_fit_together(self):
        self.assertEqual(filled(SOME).block(), "p0q1r50w2x7d1zg1uzk0b1v3d0zzp999999q999999r999999")
        self.assertEqual(filled([SOME[0], SOME[6]]).block(), "p0q1r50")
        self.assertEqual(filled([SOME[6], SOME[0]]).block(), command_text(SOME[6]))

    def test_the_first_one_that_does_not_fit_ends_the_block(self):
        pool = filled([("p", MOST, MOST, MOST), ("d", 0, "0" * 40), ("w", 1, 2)])
        self.assertEqual(pool.block(), "p999999q999999r999999")

    def test_exactly_sixty_characters(self):
        commands = [("p", MOST, MOST, MOST), ("k", MOST, MOST, MOST), ("p", 10000, 1000, 10), ("w", 0, 0)]
        commands[2] = ("p", 10000, 10000, 1000)
        block = "".join(command_text(command) for command in commands[:3])
        self.assertEqual(len(block), 59)
        self.assertEqual(filled(commands).block(), block)
        commands[2] = ("p", 10000, 10000, 10000)
        block = "".join(command_text(command) for command in commands[:3])
        self.assertEqual(len(block), 60)
        self.assertEqual(filled(commands).block(), block)
        commands[2] = ("p", 100000, 10000, 10000)
        self.assertEqual(filled(commands).block(), block_of(commands[:2])[0])

    def test_a_block_can_be_asked_for_again(self):
        pool = filled(SOME)
        self.assertEqual(pool.block(), pool.block())
        self.assert_waiting(pool, SOME)


class Removing(PoolCase):
    def test_the_block_of_the_pool(self):
        pool = filled(SOME)
        pool.remove(pool.block())
        self.assert_waiting(pool, SOME[6:])
        pool.remove(pool.block())
        self.assert_waiting(pool, SOME[7:])
        pool.remove(pool.block())
        self.assert_waiting(pool, [])
        pool.remove(pool.block())
        self.assert_waiting(pool, [])

    def test_wherever_they_wait(self):
        for at in range(len(SOME)):
            pool = filled(SOME)
            pool.remove(command_text(SOME[at]))
            self.assert_waiting(pool, SOME[:at] + SOME[at + 1:])
        pool = filled(SOME)
        pool.remove("w0x0d1zg1uzp0q1r50")
        self.assert_waiting(pool, [SOME[1]] + SOME[3:7])

    def test_commands_that_do_not_wait_change_nothing(self):
        pool = filled(SOME)
        pool.remove("p9q9r9")
        pool.remove("w2x8d1zgzp1q0r50")
        self.assert_waiting(pool, SOME)
        pool.remove("p9q9r9w2x7w2x8")
        self.assert_waiting(pool, SOME[:1] + SOME[2:])

    def test_a_command_twice_in_a_block(self):
        pool = filled(SOME)
        pool.remove("w2x7w2x7")
        self.assert_waiting(pool, SOME[:1] + SOME[2:])

    def test_a_text_without_commands_changes_nothing(self):
        for block in ("", "abc", "b0t0", "w2x7a", "aw2x7", "w02x7", "p0q1", "w2x7 ", "p0q1r50w2x"):
            pool = filled(SOME)
            pool.remove(block)
            self.assert_waiting(pool, SOME)
            empty = Pool()
            empty.remove(block)
            self.assert_waiting(empty, [])

    def test_what_was_removed_can_be_submitted_again(self):
        pool = filled(SOME)
        pool.remove("w2x7")
        pool.submit(("w", 2, 7))
        self.assert_waiting(pool, SOME[:1] + SOME[2:] + [("w", 2, 7)])
        pool.submit(("w", 2, 7))
        self.assert_waiting(pool, SOME[:1] + SOME[2:] + [("w", 2, 7)])


class Rows(PoolCase):
    def test_rows_of_calls_as_the_document_says(self):
        for seed in range(30):
            chosen = random.Random(seed)
            pool, waiting = Pool(), []
            for _ in range(100):
                if chosen.randrange(3):
                    command = ("p", chosen.randrange(3), chosen.randrange(3), chosen.choice((0, 1, MOST)))
                    pool.submit(command)
                    if command not in waiting:
                        waiting.append(command)
                else:
                    some = chosen.sample(waiting, min(len(waiting), 2)) + [("w", 1, 1)]
                    block = chosen.choice((pool.block(), block_of(some)[0], "abc"))
                    pool.remove(block)
                    for command in commands_of(block):
                        if command in waiting:
                            waiting.remove(command)
                self.assert_waiting(pool, waiting)


if __name__ == "__main__":
    unittest.main()
