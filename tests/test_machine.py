"""Point 29: programs."""

import random
import unittest

from tribunal.machine import Run, run

SIGNS = "0123456789ginasmtcehlujfyo"
LOOP = "0j"


def number(value):
    """A code that pushes a number from 0 to 999999."""
    digits = str(value)
    return digits[0] + "".join(digit + "t" for digit in digits[1:])


class RunCase(unittest.TestCase):
    def assert_kinds(self, ran, store):
        self.assertIsInstance(ran, Run)
        self.assertIn(ran.well, (True, False))
        self.assertIs(type(ran.well), bool)
        self.assertIs(type(ran.store), dict)
        self.assertIsNot(ran.store, store)
        self.assertIs(type(ran.paid), int)
        self.assertIs(type(ran.steps), int)

    def run_once(self, code, given, amount, store):
        before = list(store.items())
        ran = run(code, given, amount, store)
        self.assertEqual(list(store.items()), before)
        self.assert_kinds(ran, store)
        return ran

    def assert_well(self, code, given=0, amount=0, store=None, left=None, paid=0, steps=None):
        """The run ends well; `left` is the store then, `steps` as many as there are signs if it is not given."""
        ran = self.run_once(code, given, amount, store or {})
        self.assertIs(ran.well, True, code)
        self.assertEqual(list(ran.store.items()), sorted((left or {}).items()), code)
        self.assertEqual((ran.paid, ran.steps), (paid, len(code) if steps is None else steps), code)

    def assert_fails(self, code, steps, given=0, amount=0, store=None):
        for before in (store or {}, {9: 1, 3: 0, 5: 999999}):
            ran = self.run_once(code, given, amount, before)
            self.assertIs(ran.well, False, code)
            self.assertEqual(list(ran.store.items()), list(before.items()))
            self.assertEqual((ran.paid, ran.steps), (0, steps), code)

    def assert_top(self, code, expected, given=0, amount=0, store=None):
        """The value on top behind a code: it is paid out, and put into the store for the key 0."""
        ran = self.run_once(code + "y", given, amount, store or {})
        self.assertEqual((ran.well, ran.paid, ran.steps), (True, expected, len(code) + 1), code)
        ran = self.run_once(code + "0u", given, amount, store or {})
        self.assertEqual((ran.well, ran.store.get(0, 0)), (True, expected), code)


class Pushing(RunCase):
    def test_digits(self):
        for digit in range(10):
            self.assert_top(str(digit), digit)

    def test_the_given_number(self):
        for given in (0, 1, 999999):
            self.assert_top("g", given, given=given, amount=5)

    def test_the_amount_modulo_a_million(self):
        for amount in (0, 7, 999999, 1000000, 1000001, 123456789, 10 ** 30 + 12):
            self.assert_top("i", amount % 1000000, given=5, amount=amount)

    def test_the_number_of_values(self):
        for many in range(15):
            self.assert_top("7" * many + "n", many)
        self.assert_top("nnn", 2)
        self.assert_top("55an", 1)

    def test_long_numbers(self):
        for value in (10, 42, 999, 1000, 123456, 999999):
            self.assert_top(number(value), value)


class Reckoning(RunCase):
    def test_a_adds(self):
        self.assert_top("23a", 5)
        self.assert_top("90a", 9)
        self.assert_top(number(999999) + "1a", 0)
        self.assert_top(number(999999) + "ha", 999998)

    def test_s_takes_away_and_stops_at_0(self):
        self.assert_top("53s", 2)
        self.assert_top("35s", 0)
        self.assert_top("55s", 0)
        self.assert_top("0" + number(999999) + "s", 0)
        self.assert_top(number(999999) + "9s", 999990)

    def test_m_multiplies(self):
        self.assert_top("67m", 42)
        self.assert_top("09m", 0)
        self.assert_top(number(1000) + "hm", 0)
        self.assert_top(number(1001) + "hm", 2001)
        self.assert_top(number(999999) + "hm", 1)

    def test_t_adds_to_ten_times_the_lower_value(self):
        self.assert_top("47t", 47)
        self.assert_top("07t", 7)
        self.assert_top("4" + number(123) + "t", 163)
        self.assert_top(number(123456) + "7t", 234567)
        self.assert_top("9" + number(999999) + "t", 89)

    def test_c_asks_whether_the_lower_value_is_less(self):
        self.assert_top("23c", 1)
        self.assert_top("32c", 0)
        self.assert_top("33c", 0)
        self.assert_top("0" + number(999999) + "c", 1)

    def test_e_asks_whether_they_are_equal(self):
        self.assert_top("33e", 1)
        self.assert_top("34e", 0)
        self.assert_top("43e", 0)
        self.assert_top("00e", 1)

    def test_two_values_become_one(self):
        for sign in "asmtce":
            self.assert_top(f"812{sign}n", 2)
            self.assert_well(f"812{sign}yy", paid=8 + {"a": 3, "s": 0, "m": 2, "t": 12, "c": 1, "e": 0}[sign])

    def test_h_pushes_the_value_twice(self):
        self.assert_top("7ha", 14)
        self.assert_top("37hn", 3)
        self.assert_well("37hyyy", paid=17)


class Store(RunCase):
    def test_l_reads_a_value(self):
        store = {0: 5, 12: 999999}
        self.assert_well("0ly", store=store, left=store, paid=5)
        self.assert_well(number(12) + "ly", store=store, left=store, paid=999999)
        self.assert_well("1ly", store=store, left=store, paid=0)
        self.assert_well("0lny", store=store, left=store, paid=1)

    def test_u_pops_the_key_first(self):
        self.assert_well("82u", left={2: 8})
        self.assert_well(number(123456) + number(999999) + "u", left={999999: 123456})
        self.assert_well("82u2ly", left={2: 8}, paid=8)
        self.assert_well("782uny", left={2: 8}, paid=1)
        self.assert_well("82u92u", store={2: 1, 4: 4}, left={2: 9, 4: 4})

    def test_the_keys_are_in_ascending_order(self):
        self.assert_well("19u18u15u", store={7: 1, 3: 1}, left={3: 1, 5: 1, 7: 1, 8: 1, 9: 1})
        self.assert_well("", store={7: 1, 3: 1, 999999: 4, 0: 6}, left={0: 6, 3: 1, 7: 1, 999999: 4})

    def test_a_value_0_is_not_kept(self):
        self.assert_well("02u", store={1: 1}, left={1: 1})
        self.assert_well("02u", store={2: 7, 1: 1}, left={1: 1})
        self.assert_well("82u02u2ly", left={}, paid=0)
        self.assert_well("02u82u", left={2: 8})
        self.assert_well("", store={2: 0, 1: 1, 0: 0}, left={1: 1})
        self.assert_well("2ly", store={2: 0}, left={})

    def test_a_failed_run_changes_nothing(self):
        self.assert_fails("82u9y0o", 7)
        self.assert_fails("82u9ya", 6, store={2: 5})
        self.assert_fails("03ua", 4, store={3: 4, 1: 0})

    def test_the_store_of_the_run_is_its_own(self):
        for code in ("", "a"):
            store = {4: 5}
            ran = run(code, 0, 0, store)
            ran.store[4] = 6
            ran.store[7] = 7
            self.assertEqual(store, {4: 5})

    def test_runs_are_apart(self):
        store = {}
        run("82u", 0, 0, store)
        self.assert_well("2ly", store=store, left={}, paid=0)


class Jumping(RunCase):
    def test_j_to_a_place_inside(self):
        self.assert_well("4jaa7y", paid=7, steps=4)
        self.assert_well("3ja5y", paid=5, steps=4)

    def test_j_to_the_place_behind_it(self):
        self.assert_well("2j5y", paid=5)

    def test_j_to_a_place_outside(self):
        self.assert_well("2j", steps=2)
        self.assert_well("9jaaa", steps=2)
        self.assert_well("5jaaa", steps=2)
        self.assert_fails("4jaaa", 3)
        self.assert_well(number(999999) + "jaaa", steps=12)

    def test_j_backwards(self):
        # Each time round there is one value more; three times round, and then behind the jump.
        self.assert_well("n3c8f50jy", steps=3 * 8 + 6, paid=5)

    def test_f_jumps_if_the_value_is_0(self):
        self.assert_well("05faa4y", steps=5, paid=4)
        self.assert_well("09fa", steps=3)
        self.assert_well("04fa", steps=3)

    def test_f_goes_on_if_the_value_is_not_0(self):
        self.assert_well("19f4y", paid=4)
        self.assert_well(number(999999) + "9f4y", paid=4)
        self.assert_well("80f4y", paid=4)

    def test_f_pops_the_place_first(self):
        self.assert_well("05fay", steps=3)
        self.assert_well("50f3y", paid=3)
        self.assert_well("705fny", steps=5, paid=7)

    def test_f_pops_both(self):
        self.assert_well("719f" + "ny", paid=1)
        self.assert_well("704f" + "ny", paid=1)


class Ending(RunCase):
    def test_the_empty_program(self):
        self.assert_well("")
        self.assert_well("", given=5, amount=6, store={1: 2}, left={1: 2})

    def test_y_adds_the_amounts(self):
        self.assert_well("5y", paid=5)
        self.assert_well("5y0y7y", paid=12)
        self.assert_well((number(999999) + "y") * 3, paid=2999997)
        self.assert_well("iy" * 4, amount=1999999, paid=3999996)

    def test_o_fails_if_the_value_is_0(self):
        self.assert_well("1o")
        self.assert_well("52oy", paid=5)
        self.assert_well(number(999999) + "o")
        self.assert_fails("0o", 2)
        self.assert_fails("0o5y", 2)
        self.assert_fails("9y0o", 4)

    def test_values_that_are_left_do_not_matter(self):
        self.assert_well("123")


class Stack(RunCase):
    def test_signs_that_pop_from_an_empty_stack(self):
        for sign in "asmtcehlujfyo":
            self.assert_fails(sign, 1)
            self.assert_fails(sign + "1", 1)
            self.assert_fails("5y" + sign, 3)

    def test_signs_that_pop_two_values_from_a_stack_of_one(self):
        for sign in "asmtceuf":
            for digit in "019":
                self.assert_fails(digit + sign, 2)
            self.assert_fails("5y3" + sign, 4)

    def test_signs_that_pop_one_value_from_a_stack_of_one(self):
        for sign, steps in (("h", 2), ("l", 2), ("j", 2), ("y", 2), ("o", 2)):
            self.assertEqual(run("9" + sign, 0, 0, {}).well, True)
            self.assertEqual(run("9" + sign, 0, 0, {}).steps, steps)

    def test_sixteen_values_and_one_more(self):
        for sign in "0123456789gin":
            self.assert_well("5" * 15 + sign)
            top = {"g": 5, "i": 5, "n": 15}.get(sign, int(sign, 36))
            self.assert_well("5" * 15 + sign + "y" * 16, given=5, amount=5, paid=75 + top)
            self.assert_fails("5" * 16 + sign, 17)
            self.assert_fails("5" * 16 + sign + "5", 17)
            self.assert_well("5" * 16 + "y" + sign, paid=5)

    def test_h_on_a_full_stack(self):
        self.assert_well("5" * 15 + "h")
        self.assert_fails("5" * 16 + "h", 17)

    def test_signs_that_pop_first_run_on_a_full_stack(self):
        for sign in "asmtcel":
            self.assert_well("5" * 16 + sign)


class Steps(RunCase):
    def test_exactly_two_hundred_signs(self):
        self.assert_well("1y" * 100, paid=100, steps=200)
        self.assert_well("1y" * 99 + "9y", paid=108, steps=200)

    def test_one_more_sign(self):
        self.assert_fails("1y" * 100 + "1", 200)
        self.assert_fails("1y" * 100 + "a", 200)
        self.assert_fails("1y" * 150, 200)

    def test_a_jump_out_at_the_last_sign(self):
        code = "1y" * 97 + number(999) + "j"
        self.assertEqual(len(code), 200)
        self.assert_well(code, paid=97)
        self.assert_well(code + "aaaa", paid=97, steps=200)

    def test_a_jump_to_a_place_inside_at_the_last_sign(self):
        self.assert_fails("1y" * 99 + "0j", 200)

    def test_a_sign_that_fails_at_the_last_step(self):
        self.assert_fails("1y" * 99 + "1" + "a", 200)
        self.assert_fails("1y" * 99 + "0" + "o", 200)

    def test_a_loop_without_end(self):
        self.assert_fails(LOOP, 200)
        self.assert_fails("5y" + LOOP, 200)

    def test_a_sign_that_fails_has_run(self):
        self.assert_fails("a", 1)
        self.assert_fails("12aa", 4)
        self.assert_fails("2jaaa", 3)


OF_TWO = {
    "a": lambda a, b: a + b, "s": lambda a, b: max(a - b, 0), "m": lambda a, b: a * b,
    "t": lambda a, b: 10 * a + b, "c": lambda a, b: int(a < b), "e": lambda a, b: int(a == b),
}


def listed_run(code, given, amount, store):
    """Point 29, word for word: whether it ended well, the store, what is paid, and how many signs ran."""
    stack, kept, place, paid, steps = [], dict(store), 0, 0, 0
    pops = {"a": 2, "s": 2, "m": 2, "t": 2, "c": 2, "e": 2, "h": 1, "l": 1, "u": 2, "j": 1, "f": 2, "y": 1, "o": 1}
    while place in range(len(code)):
        sign, place, steps = code[place], place + 1, steps + 1
        if steps > 200 or len(stack) < pops.get(sign, 0):
            return (False, dict(store), 0, min(steps, 200))
        b = stack.pop() if sign in pops else None
        a = stack.pop() if pops.get(sign) == 2 else None
        new = []
        if sign.isdigit():
            new = [int(sign)]
        elif sign in "gin":
            new = [{"g": given, "i": amount, "n": len(stack)}[sign]]
        elif sign in OF_TWO:
            new = [OF_TWO[sign](a, b)]
        elif sign == "h":
            new = [b, b]
        elif sign == "l":
            new = [kept.get(b, 0)]
        elif sign == "u":
            kept[b] = a
        elif sign == "j" or sign == "f" and a == 0:
            place = b
        elif sign == "y":
            paid += b
        if sign == "o" and b == 0 or len(stack) + len(new) > 16:
            return (False, dict(store), 0, steps)
        stack += [value % 1000000 for value in new]
    return (True, {key: kept[key] for key in sorted(kept) if kept[key]}, paid, steps)


class Programs(RunCase):
    def test_a_program_that_counts(self):
        # Adds the given number to what the store has for the key 1, and pays out the amount if it is 7 then.
        code = "1lgah1u7e" + number(17) + "fi" + "y"
        self.assert_well(code, given=3, amount=50, store={1: 4}, left={1: 7}, paid=50)
        self.assert_well(code, given=2, amount=50, store={1: 4}, left={1: 6}, steps=13)

    def test_as_the_document_says_for_many_programs(self):
        ended = {True: 0, False: 0}
        for seed in range(6000):
            chosen = random.Random(seed)
            weights = [3 if sign.isdigit() or sign in "gin" else 2 for sign in SIGNS]
            code = "".join(chosen.choices(SIGNS, weights, k=chosen.randrange(2, 40)))
            code = chosen.choice(("", "123456", "5ih")) + code
            store = {chosen.randrange(12): chosen.randrange(4) for _ in range(chosen.randrange(5))}
            given, amount = chosen.randrange(10 ** 6), chosen.randrange(10 ** 8)
            ran = self.run_once(code, given, amount, store)
            well, left, paid, steps = listed_run(code, given, amount, store)
            self.assertEqual((ran.well, ran.paid, ran.steps), (well, paid, steps), code)
            self.assertEqual(list(ran.store.items()), list(left.items()), code)
            ended[ran.well] += 1
        self.assertGreater(min(ended.values()), 300)


if __name__ == "__main__":
    unittest.main()
