"""Point 30: ledgers."""

import random
import unittest

from tribunal.ledger import Ledger, after_command, first_ledger
from tribunal.machine import run

MOST = 999999
PAYS = "gy"  # pays out the given number
STORES = "g1u"  # stores the given number for the key 1
COUNTS = "0l1a0u"  # adds 1 to the value for the key 0
LOOP = "0j"


def parts(ledger):
    return (ledger.balances, ledger.codes, ledger.stores)


def after(grants, *commands):
    """The ledger of some grants after some commands, all of which are done."""
    ledger = first_ledger(grants)
    for command in commands:
        ledger, done = after_command(ledger, command)
        assert done, command
    return ledger


class LedgerCase(unittest.TestCase):
    def execute(self, ledger, command):
        """Executes a command, and checks what holds for each one."""
        before = parts(ledger)
        pair = after_command(ledger, command)
        self.assertIs(type(pair), tuple)
        found, done = pair
        self.assertIs(type(done), bool)
        self.assertIsInstance(found, Ledger)
        self.assertEqual(parts(ledger), before)
        self.assert_kinds(found)
        self.assertEqual(sum(found.balances), sum(ledger.balances))
        return found, done

    def assert_kinds(self, ledger):
        self.assertEqual([type(part) for part in parts(ledger)], [tuple] * 3)
        self.assertEqual({len(part) for part in parts(ledger)}, {len(ledger.balances)})
        for balance in ledger.balances:
            self.assertIs(type(balance), int)
            self.assertGreaterEqual(balance, 0)
        for store in ledger.stores:
            self.assertIs(type(store), tuple)
            self.assertTrue(all(type(pair) is tuple for pair in store))
            self.assertEqual([key for key, _ in store], sorted({key for key, _ in store}))
            self.assertNotIn(0, [value for _, value in store])

    def assert_done(self, ledger, command, balances=None, codes=None, stores=None):
        """The command is done, and only the given parts of the ledger are others now."""
        found, done = self.execute(ledger, command)
        self.assertIs(done, True, command)
        expected = [part or same for part, same in zip((balances, codes, stores), parts(ledger))]
        self.assertEqual(list(parts(found)), expected, command)
        return found

    def assert_refused(self, ledger, command):
        found, done = self.execute(ledger, command)
        self.assertIs(done, False, command)
        self.assertTrue(found == ledger)
        self.assertEqual(parts(found), parts(ledger))


class Beginning(LedgerCase):
    def test_the_balances_are_the_grants(self):
        for grants in ([], [0], [5], [0, 0, 0], [7, 0, 10 ** 30], list(range(40))):
            for given in (grants, tuple(grants)):
                ledger = first_ledger(given)
                self.assert_kinds(ledger)
                many = len(grants)
                self.assertEqual(parts(ledger), (tuple(grants), ("",) * many, ((),) * many))

    def test_the_grants_stay_and_do_not_matter_any_more(self):
        grants = [4, 5]
        ledger = first_ledger(grants)
        after_command(ledger, ("p", 0, 1, 2))
        self.assertEqual(grants, [4, 5])
        grants[0] = 9
        self.assertEqual(ledger.balances, (4, 5))


class Equality(LedgerCase):
    def assert_equal(self, one, other):
        for left, right in ((one, other), (other, one)):
            self.assertIs(left == right, True)
            self.assertIs(left != right, False)

    def assert_differ(self, one, other):
        for left, right in ((one, other), (other, one)):
            self.assertIs(left == right, False)
            self.assertIs(left != right, True)

    def test_equal_parts(self):
        self.assert_equal(first_ledger([]), first_ledger(()))
        self.assert_equal(first_ledger([1, 2]), first_ledger((1, 2)))
        self.assert_equal(after([3, 0], ("p", 0, 1, 1)), first_ledger([2, 1]))
        one = after([5], ("d", 0, STORES), ("k", 0, 0, 3))
        self.assert_equal(one, after([5], ("d", 0, STORES), ("k", 0, 0, 4), ("k", 0, 0, 3)))
        self.assert_equal(one, one)

    def test_each_part_alone_makes_a_difference(self):
        one = after([5, 5], ("d", 0, STORES))
        self.assert_differ(one, after([5, 5], ("d", 0, STORES), ("p", 0, 1, 1)))
        self.assert_differ(one, first_ledger([5, 5]))
        self.assert_differ(one, after([5, 5], ("d", 1, STORES)))
        self.assert_differ(one, after([5, 5], ("d", 0, STORES), ("k", 1, 0, 1)))
        self.assert_differ(first_ledger([1, 2]), first_ledger([2, 1]))
        self.assert_differ(first_ledger([0]), first_ledger([0, 0]))
        self.assert_differ(first_ledger([0]), first_ledger([]))

    def test_what_is_no_ledger_is_not_equal(self):
        for other in (None, 0, "", (), ((1,), ("",), ((),))):
            self.assert_differ(first_ledger([1]), other)


class Payments(LedgerCase):
    def test_ordinary_ones(self):
        ledger = first_ledger([10, 3, 0])
        self.assert_done(ledger, ("p", 0, 1, 4), (6, 7, 0))
        self.assert_done(ledger, ("p", 1, 2, 2), (10, 1, 2))

    def test_nothing_and_the_whole_balance_and_one_more(self):
        ledger = first_ledger([10, 3])
        self.assert_done(ledger, ("p", 0, 1, 0))
        self.assert_done(ledger, ("p", 0, 1, 10), (0, 13))
        self.assert_done(ledger, ("p", 1, 0, 3), (13, 0))
        self.assert_refused(ledger, ("p", 0, 1, 11))
        self.assert_refused(ledger, ("p", 1, 0, 4))
        self.assert_done(first_ledger([0, 0]), ("p", 1, 0, 0))
        self.assert_refused(first_ledger([0, 0]), ("p", 1, 0, 1))

    def test_to_the_same_account(self):
        ledger = first_ledger([10, 3])
        for amount in (0, 1, 10):
            self.assert_done(ledger, ("p", 0, 0, amount))
        self.assert_refused(ledger, ("p", 0, 0, 11))

    def test_accounts_that_do_not_exist(self):
        ledger = first_ledger([10, 3])
        for payer, payee in ((2, 0), (0, 2), (2, 2), (MOST, 0), (0, MOST), (0, -1), (-1, 0)):
            for amount in (0, 1):
                self.assert_refused(ledger, ("p", payer, payee, amount))
        self.assert_refused(first_ledger([]), ("p", 0, 0, 0))

    def test_large_balances(self):
        ledger = first_ledger([10 ** 30, MOST])
        self.assert_done(ledger, ("p", 0, 1, MOST), (10 ** 30 - MOST, 2 * MOST))
        self.assert_done(ledger, ("p", 1, 0, MOST), (10 ** 30 + MOST, 0))
        self.assert_done(ledger, ("p", 0, 1, 10 ** 20), (10 ** 30 - 10 ** 20, MOST + 10 ** 20))

    def test_no_amount_makes_a_balance_negative(self):
        for amount in (-1, -11):
            self.execute(first_ledger([10, 0]), ("p", 0, 1, amount))

    def test_programs_and_stores_stay(self):
        ledger = after([9, 9], ("d", 0, STORES), ("k", 1, 0, 5))
        self.assertEqual(ledger.stores, (((1, 5),), ()))
        self.assert_done(ledger, ("p", 0, 1, 9), (0, 18))


class Programs(LedgerCase):
    def test_a_new_one(self):
        ledger = first_ledger([1, 2, 3])
        found = self.assert_done(ledger, ("d", 1, PAYS), codes=("", PAYS, ""))
        found = self.assert_done(found, ("d", 2, ""), codes=("", PAYS, ""))
        self.assert_done(found, ("d", 1, STORES), codes=("", STORES, ""))

    def test_the_store_becomes_empty(self):
        ledger = after([1, 2], ("d", 0, STORES), ("d", 1, STORES), ("k", 0, 0, 7), ("k", 0, 1, 8))
        self.assertEqual(ledger.stores, (((1, 7),), ((1, 8),)))
        for code in (PAYS, STORES):
            self.assert_done(ledger, ("d", 0, code), codes=(code, STORES), stores=((), ((1, 8),)))

    def test_the_empty_program(self):
        ledger = after([1, 2], ("d", 0, STORES), ("k", 0, 0, 7))
        found = self.assert_done(ledger, ("d", 0, ""), codes=("", ""), stores=((), ()))
        self.assert_refused(found, ("k", 0, 0, 7))

    def test_accounts_that_do_not_exist(self):
        for account in (2, 3, MOST, -1):
            self.assert_refused(first_ledger([1, 2]), ("d", account, PAYS))
            self.assert_refused(first_ledger([1, 2]), ("d", account, ""))
        self.assert_refused(first_ledger([]), ("d", 0, ""))


class Calls(LedgerCase):
    def test_the_caller_gets_what_the_callee_pays(self):
        ledger = after([10, 3, 0], ("d", 0, PAYS))
        self.assert_done(ledger, ("k", 1, 0, 4), (6, 7, 0))
        self.assert_done(ledger, ("k", 2, 0, 0))
        self.assert_done(ledger, ("k", 2, 0, 10), (0, 3, 10))
        self.assert_refused(ledger, ("k", 2, 0, 11))
        self.assert_refused(ledger, ("k", 2, 0, MOST))

    def test_amounts_that_are_paid_one_after_the_other(self):
        ledger = after([10, 3], ("d", 0, "gygygy"))
        self.assert_done(ledger, ("k", 1, 0, 3), (1, 12))
        self.assert_refused(ledger, ("k", 1, 0, 4))

    def test_caller_and_callee_the_same(self):
        ledger = after([10, 3], ("d", 0, PAYS + STORES))
        for given in (1, 10):
            self.assert_done(ledger, ("k", 0, 0, given), stores=(((1, given),), ()))
        self.assert_refused(ledger, ("k", 0, 0, 11))

    def test_a_callee_without_a_program(self):
        ledger = after([10, 3], ("d", 0, PAYS))
        self.assert_refused(ledger, ("k", 0, 1, 0))
        self.assert_refused(ledger, ("k", 1, 1, 0))
        self.assert_done(ledger, ("k", 1, 0, 0))

    def test_accounts_that_do_not_exist(self):
        ledger = after([10, 3], ("d", 0, PAYS), ("d", 1, PAYS))
        for caller, callee in ((2, 0), (0, 2), (2, 2), (MOST, 0), (0, MOST), (-1, 0), (0, -1)):
            self.assert_refused(ledger, ("k", caller, callee, 0))
        self.assert_refused(first_ledger([]), ("k", 0, 0, 0))

    def test_a_run_that_fails(self):
        for code in ("a", "0o", "gyo", LOOP, "g1ugy0o", "n" * 17):
            ledger = after([10, 3], ("d", 0, STORES), ("d", 1, code), ("k", 0, 0, 5))
            self.assert_refused(ledger, ("k", 0, 1, 1))
            self.assert_refused(ledger, ("k", 1, 1, 1))

    def test_the_store_is_replaced(self):
        ledger = after([1, 2], ("d", 1, "g3ug1ug2u"))
        ledger = self.assert_done(ledger, ("k", 0, 1, 5), stores=((), ((1, 5), (2, 5), (3, 5))))
        ledger = self.assert_done(ledger, ("k", 0, 1, 6), stores=((), ((1, 6), (2, 6), (3, 6))))
        self.assert_done(ledger, ("k", 0, 1, 0), stores=((), ()))

    def test_the_program_sees_its_store(self):
        ledger = after([0, 0], ("d", 0, COUNTS))
        for many in range(1, 6):
            ledger = self.assert_done(ledger, ("k", 1, 0, 0), stores=(((0, many),), ()))

    def test_keys_in_ascending_order_wherever_they_came_from(self):
        ledger = after([0], ("d", 0, "1gu"), ("k", 0, 0, 5), ("k", 0, 0, 900000), ("k", 0, 0, 2))
        self.assertEqual(ledger.stores, (((2, 1), (5, 1), (900000, 1)),))

    def test_a_refused_call_keeps_the_store(self):
        ledger = after([3], ("d", 0, PAYS + STORES), ("k", 0, 0, 2))
        self.assertEqual(ledger.stores, (((1, 2),),))
        self.assert_refused(ledger, ("k", 0, 0, 4))

    def test_the_program_sees_the_amount_of_its_account(self):
        ledger = after([10, 3], ("d", 0, "i1u"), ("d", 1, "i1u"))
        ledger = self.assert_done(ledger, ("k", 1, 0, 0), stores=(((1, 10),), ()))
        self.assert_done(ledger, ("k", 0, 1, 0), stores=(((1, 10),), ((1, 3),)))

    def test_the_amount_is_seen_modulo_a_million_and_paid_from_the_whole(self):
        for balance, seen in ((MOST, MOST), (10 ** 6, 0), (10 ** 6 + 1, 1), (5 * 10 ** 6 + 70, 70), (10 ** 30 + 2, 2)):
            ledger = after([balance, 0], ("d", 0, "i1uiy"))
            stores = ((((1, seen),) if seen else ()), ())
            self.assert_done(ledger, ("k", 1, 0, 0), (balance - seen, seen), stores=stores)
        ledger = after([10 ** 6 + 1, 0], ("d", 0, PAYS))
        self.assert_done(ledger, ("k", 1, 0, MOST), (2, MOST))
        for balance in (2 * MOST, 2 * MOST + 1):
            ledger = after([balance, 0], ("d", 0, "gygy"))
            self.assert_done(ledger, ("k", 1, 0, MOST), (balance - 2 * MOST, 2 * MOST))
        self.assert_refused(after([2 * MOST - 1, 0], ("d", 0, "gygy")), ("k", 1, 0, MOST))


class Weights(LedgerCase):
    def test_a_new_weight_is_refused(self):
        for member, weight in ((0, 1), (1, 0), (0, MOST), (MOST, 5)):
            self.assert_refused(first_ledger([1, 2]), ("w", member, weight))
            self.assert_refused(first_ledger([]), ("w", member, weight))


def listed_after(accounts, command):
    """Point 30, step by step: the accounts are lists of a balance, a code and a dict; returns whether it was done."""
    kind = command[0]
    if kind == "w":
        return False
    named = command[1:2] if kind == "d" else command[1:3]
    if any(account >= len(accounts) for account in named):
        return False
    if kind == "d":
        accounts[command[1]][1:] = [command[2], {}]
        return True
    if kind == "k":
        caller, callee = accounts[command[1]], accounts[command[2]]
        ran = run(callee[1], command[3], callee[0] % 1000000, callee[2])
        if callee[1] == "" or not ran.well or ran.paid > callee[0]:
            return False
        callee[0] -= ran.paid
        caller[0] += ran.paid
        callee[2] = ran.store
        return True
    payer, payee = accounts[command[1]], accounts[command[2]]
    if payer[0] < command[3]:
        return False
    payer[0] -= command[3]
    payee[0] += command[3]
    return True


class Rows(LedgerCase):
    """Long rows of commands."""

    def commands(self, chosen, many):
        codes = ("", PAYS, STORES, COUNTS, "iy", "gygy", "glgu", "1gu", "gy0o", "i2s1u", "gi" + "m1u1ly", LOOP)
        for _ in range(many):
            account, other = chosen.randrange(5), chosen.randrange(5)
            number = chosen.choice((0, 1, 2, 5, 20, 1000, MOST))
            yield chosen.choice((
                ("p", account, other, number), ("d", account, chosen.choice(codes)),
                ("k", account, other, number), ("k", account, other, number), ("w", account, number),
            ))

    def test_as_the_document_says(self):
        done_of = {}
        for seed in range(20):
            chosen = random.Random(seed)
            grants = [chosen.choice((0, 3, 50, 10 ** 6 + 4, 10 ** 12)) for _ in range(4)]
            accounts = [[grant, "", {}] for grant in grants]
            ledger = first_ledger(grants)
            for command in self.commands(chosen, 300):
                ledger, done = self.execute(ledger, command)
                self.assertEqual(done, listed_after(accounts, command))
                expected = tuple(zip(*[(balance, code, tuple(store.items())) for balance, code, store in accounts]))
                self.assertEqual(parts(ledger), expected)
                done_of[command[0], done] = done_of.get((command[0], done), 0) + 1
            self.assertEqual(sum(ledger.balances), sum(grants))
        self.assertNotIn(("w", True), done_of)
        for kind in "pdk":
            for done in (True, False):
                self.assertGreater(done_of[kind, done], 100, (kind, done))


if __name__ == "__main__":
    unittest.main()
