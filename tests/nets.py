"""Nets for the tests: ways to let letters travel, liars that attack, and what is promised of every net."""

import copy
import random

from tribunal.chain import Chain
from tribunal.court import charge_of, holds
from tribunal.net import Net
from tribunal.paper import accuse, shows
from tribunal.votes import precommit, prevote, proposal


def state(net):
    """All that a net shows, as plain values."""
    keepers = {
        who: (keeper.height, keeper.turn, keeper.step, list(keeper.journal.signed), list(keeper.chain.blocks))
        for who, keeper in net.keepers.items()
    }
    return (net.size, keepers, list(net.bag), copy.deepcopy(net.history))


def give(net, letter, to):
    """Puts a letter of a liar into the bag, and delivers it."""
    net.inject(letter)
    net.deliver(len(net.bag) - 1, to)


def hear_all(net, most, start=0):
    """Delivers all letters to everybody, in order, as long as there are such, and at most so many; returns how many."""
    at = start
    while at < len(net.bag) and at < start + most:
        for who in range(net.size):
            net.deliver(at, who)
        at += 1
    return at


def to_turn(net, who, turn):
    while net.keepers[who].turn < turn:
        net.timeout(who)


def fork(net, who, block, height, turn):
    """The liars lead a keeper to commit a block in a turn of its height, in which one of them is the leader."""
    liars = [liar for liar in range(net.size) if liar not in net.keepers]
    leader = (height + turn) % net.size
    give(net, (leader, proposal(height, turn, block)), who)
    for liar in liars:
        give(net, (liar, prevote(height, turn, block, None)), who)
    for liar in liars:
        give(net, (liar, precommit(height, turn, block)), who)


def blocks_by_height(net):
    """For each height, the entries of the history."""
    found = {}
    for entry in net.history:
        found.setdefault(entry[1], []).append(entry)
    return found


def forked_height(net):
    """The least height with different blocks in the history, or None."""
    forks = [height for height, entries in blocks_by_height(net).items() if len({entry[2] for entry in entries}) > 1]
    return min(forks, default=None)


def committee_at(net, weights, height):
    """The committee of a height below which the history has no different blocks."""
    chain, found = Chain(list(weights), []), blocks_by_height(net)
    for below in range(height):
        chain.extend(found[below][0][2])
    return chain.committee()


def assert_promises(test, net, weights):
    """Points 22, 25 and 26, of any net."""
    for who in net.keepers:
        test.assertIsNone(charge_of(net.bag, who))
    height = forked_height(net)
    for found, entries in blocks_by_height(net).items():
        if height is None or found <= height:
            committee = committee_at(net, weights, found)
            for _, _, block, paper in entries:
                test.assertIs(shows(committee, found, block, paper), True)
    if height is not None:
        committee = committee_at(net, weights, height)
        entries = blocks_by_height(net)[height]
        for _, _, block, paper in entries:
            for _, _, other, another in entries:
                if block != other:
                    assert_third(test, net, committee, accuse(committee, height, (block, paper), (other, another)))


def assert_third(test, net, committee, charges):
    named = [charge.who for charge in charges]
    test.assertTrue(all(holds(charge) for charge in charges))
    test.assertIs(committee.is_third(named), True)
    test.assertEqual([who for who in named if who in net.keepers], [])


class Recorder:
    """A net with a list of the events that happened in it; liars that attack choose them."""

    def __init__(self, weights, liars, grants, seed):
        self.net = Net(weights, liars, grants)
        self.liars = [who for who in range(self.net.size) if who in liars]
        self.chosen = random.Random(seed)
        self.events = []

    def do(self, *event):
        self.events.append(event)
        name, *parts = event
        if name == "crash":
            parts.append("")
        return getattr(self.net, name)(*parts)

    def run(self, many):
        for _ in range(many):
            act = self.chosen.choice((
                self.some_letters, self.some_letters, self.all_of_a_height, self.give_up, self.lie, self.attack,
                self.attack, self.rest,
            ))
            act(self.chosen.randrange(self.net.size))

    def some_letters(self, who):
        if self.net.bag:
            for _ in range(6):
                self.do("deliver", self.chosen.randrange(len(self.net.bag)), who)

    def all_of_a_height(self, who):
        if who in self.net.keepers:
            height = self.net.keepers[who].height
            for at, (_, statement) in enumerate(list(self.net.bag)):
                if statement[1] in (height, height + 1):
                    self.do("deliver", at, who)

    def give_up(self, who):
        for _ in range(self.chosen.randrange(1, 4)):
            self.do("timeout", who)

    def lie(self, who):
        height, turn = self.chosen.randrange(3), self.chosen.randrange(5)
        block = self.chosen.choice(("x", "y", "w0x3", None))
        lean = self.chosen.choice((None, *range(turn)))
        made = self.chosen.choice((prevote(height, turn, block, lean), precommit(height, turn, block)))
        if self.liars:
            self.do("inject", (self.chosen.choice(self.liars), made))

    def attack(self, who):
        """All liars support the block that a keeper has voted for, or one that a liar proposes."""
        if who not in self.net.keepers or not self.liars:
            return
        keeper = self.net.keepers[who]
        height, turn = keeper.height, keeper.turn
        block = self.chosen.choice(("x", "y", "w1x2"))
        leader = (height + turn) % self.net.size
        if leader in self.liars:
            self.give((leader, proposal(height, turn, block)), who)
        for vote in keeper.journal.signed:
            if vote[:3] == ("prevote", height, turn) and vote[3] is not None:
                block = vote[3]
        for make in (lambda: prevote(height, turn, block, None), lambda: precommit(height, turn, block)):
            for liar in self.liars:
                self.give((liar, make()), who)

    def give(self, letter, to):
        self.do("inject", letter)
        self.do("deliver", len(self.net.bag) - 1, to)

    def rest(self, who):
        kind = self.chosen.choice(("assist", "crash", "submit"))
        if kind == "assist":
            self.do(kind, who, self.chosen.randrange(self.net.size))
        elif kind == "crash":
            self.do(kind, who)
        else:
            amount = self.chosen.randrange(9)
            commands = (("p", 0, 1, amount), ("w", who, amount), ("d", 1, "gy"), ("k", 0, 1, 3))
            self.do(kind, who, self.chosen.choice(commands))
