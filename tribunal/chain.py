"""Chains: blocks, with the committees and ledgers before and behind them."""

from tribunal.commands import commands_of
from tribunal.committee import Committee
from tribunal.ledger import after_command, first_ledger


class Chain:
    """Blocks; `committees` and `ledgers` hold one for the place before each block, and one for the end."""

    def __init__(self, weights, grants):
        self.blocks = []
        self.receipts = []
        self.committees = [Committee(weights)]
        self.ledgers = [first_ledger(grants)]

    def height(self):
        """The number of blocks."""
        return len(self.blocks)

    def committee(self):
        """The committee behind the last block."""
        return self.committees[-1]

    def extend(self, block):
        """Adds a block and executes its commands in order."""
        weights = self.committee().weights
        ledger = self.ledgers[-1]
        receipts = []
        for command in commands_of(block):
            if command[0] == "w":
                weights, done = _after_weight(weights, command)
            else:
                ledger, done = after_command(ledger, command)
            receipts.append(done)
        self.blocks.append(block)
        self.receipts.append(tuple(receipts))
        self.committees.append(Committee(weights))
        self.ledgers.append(ledger)


def _after_weight(weights, command):
    """The weights after the command of a new weight, and whether the command was done."""
    _, member, weight = command
    if member >= len(weights) or weight < 1:
        return (weights, False)
    return (weights[:member] + (weight,) + weights[member + 1:], True)
