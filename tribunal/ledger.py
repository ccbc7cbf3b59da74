"""Ledgers: accounts with balances, programs and stores."""

from tribunal.machine import run


class Ledger:
    """Accounts, numbered by their places; a ledger does not change, each command makes another one."""

    def __init__(self, balances, codes, stores):
        self.balances = balances
        self.codes = codes
        self.stores = stores

    def __eq__(self, other):
        return (
            isinstance(other, Ledger)
            and self.balances == other.balances
            and self.codes == other.codes
            and self.stores == other.stores
        )


def first_ledger(grants):
    """The ledger at the beginning."""
    balances = tuple(grants)
    return Ledger(balances, ("",) * len(balances), ((),) * len(balances))


def after_command(ledger, command):
    """The ledger after a command, and whether the command was done."""
    after = _done(ledger, command)
    if after is None:
        return (ledger, False)
    return (after, True)


def _done(ledger, command):
    """The ledger after a command, or None if the command is refused."""
    kind, *parts = command
    if kind == "p":
        payer, payee, amount = parts
        return _payment(ledger, payer, payee, amount)
    if kind == "d":
        account, code = parts
        return _new_program(ledger, account, code)
    if kind == "k":
        caller, callee, given = parts
        return _call(ledger, caller, callee, given)
    return None


def _payment(ledger, payer, payee, amount):
    # An amount below 0 is none that anybody has; paid, it could make a balance negative.
    if not _exist(ledger, [payer, payee]) or amount < 0 or amount > ledger.balances[payer]:
        return None
    return Ledger(_moved(ledger.balances, payer, payee, amount), ledger.codes, ledger.stores)


def _new_program(ledger, account, code):
    if not _exist(ledger, [account]):
        return None
    codes = _replaced(ledger.codes, account, code)
    return Ledger(ledger.balances, codes, _replaced(ledger.stores, account, ()))


def _call(ledger, caller, callee, given):
    if not _exist(ledger, [caller, callee]) or ledger.codes[callee] == "":
        return None
    balance = ledger.balances[callee]
    ran = run(ledger.codes[callee], given, balance, dict(ledger.stores[callee]))
    if not ran.well or ran.paid > balance:
        return None
    stores = _replaced(ledger.stores, callee, tuple(ran.store.items()))
    return Ledger(_moved(ledger.balances, callee, caller, ran.paid), ledger.codes, stores)


def _exist(ledger, accounts):
    return all([0 <= account < len(ledger.balances) for account in accounts])


def _moved(balances, payer, payee, amount):
    """The balances after one account has paid an amount to another one, or to itself."""
    after = list(balances)
    after[payer] -= amount
    after[payee] += amount
    return tuple(after)


def _replaced(parts, at, part):
    """The parts with another one at a place."""
    return parts[:at] + (part,) + parts[at + 1:]
