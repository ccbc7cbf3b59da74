"""Nets: keepers and liars whose letters are delivered as the caller likes."""

from tribunal.chain import Chain
from tribunal.errors import BadPaper, Forged
from tribunal.journal import Journal, restore
from tribunal.replica import Replica


class Net:
    """Members that send letters; the bag holds every letter that was ever sent."""

    def __init__(self, weights, liars, grants=()):
        self.size = len(weights)
        self.keepers = {}
        self.bag = []
        self.history = []
        # What a keeper that starts again is given.
        self.weights = tuple(weights)
        self.grants = tuple(grants)
        # For each keeper, how many of its commits since it started last stand in the history.
        self.noted = {}
        for who in range(self.size):
            if who not in liars:
                self._begin(who, Journal(who))

    def deliver(self, at, to):
        """Delivers the letter at an index of the bag."""
        if to in self.keepers:
            self._note(to, self.keepers[to].receive(self.bag[at]))

    def timeout(self, to):
        """Lets a member give up waiting."""
        if to in self.keepers:
            self._note(to, self.keepers[to].timeout())

    def inject(self, letter):
        """Puts a letter of a liar into the bag."""
        sender = letter[0]
        if sender in self.keepers or not 0 <= sender < self.size:
            raise Forged("the sender is not a liar")
        self.bag.append(letter)

    def submit(self, who, command):
        """Lets a command wait at a member."""
        if who in self.keepers:
            self.keepers[who].submit(command)

    def assist(self, to, source):
        """Lets a keeper adopt the block of its height from another one; whether it did."""
        if to not in self.keepers or source not in self.keepers:
            return False
        keeper, helper = self.keepers[to], self.keepers[source]
        height = keeper.height
        if height >= helper.height:
            return False
        try:
            letters = keeper.adopt(helper.chain.blocks[height], helper.papers[height])
        except BadPaper:
            return False
        self._note(to, letters)
        return True

    def crash(self, who, torn):
        """Lets a member crash while it writes a line; it starts again with its journal."""
        if who in self.keepers:
            lines = self.keepers[who].journal.lines() + [torn]
            self._begin(who, restore(who, lines))

    def chain(self, who):
        """The blocks that a keeper has committed since it started last."""
        return list(self.keepers[who].chain.blocks)

    def _begin(self, who, journal):
        """Starts a keeper that has nothing but a journal."""
        keeper = Replica(who, Chain(self.weights, self.grants), journal)
        self.keepers[who] = keeper
        self.noted[who] = 0
        self._note(who, keeper.start())

    def _note(self, who, letters):
        """Notes what a call of a keeper has signed and committed."""
        keeper = self.keepers[who]
        self.bag.extend(letters)
        for height in range(self.noted[who], keeper.height):
            self.history.append((who, height, keeper.chain.blocks[height], list(keeper.papers[height])))
        self.noted[who] = keeper.height
