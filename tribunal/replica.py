"""Keepers: replicas that keep the rules."""

from tribunal.book import Book
from tribunal.errors import BadPaper, Refused
from tribunal.paper import commit_paper, shows
from tribunal.pool import Pool
from tribunal.votes import BLOCK, HEIGHT, TURN, is_vote, precommit, prevote, proposal


class Replica:
    """A keeper; each call signs what the rules make possible, and returns it."""

    def __init__(self, who, chain, journal):
        self.who = who
        self.chain = chain
        self.journal = journal
        self.papers = []
        self.pool = Pool()
        # For each later height, its letters; they are taken in when the keeper reaches it.
        self.later = {}
        # What the running call has done so far: the letters that it signed, and whether it committed.
        self.sent = []
        self.committed = False
        self._reach()
        self.turn = journal.last_turn(self.height)
        self.step = "propose"

    def start(self):
        """Enters the first turn; returns the letters that were signed."""
        self._begin_call()
        self._enter_first_turn()
        return self._go_on()

    def receive(self, letter):
        """Takes in a letter of the keeper's height, or keeps one of a later height."""
        height = letter[1][HEIGHT]
        if height < self.height:
            return []
        if height > self.height:
            self.later.setdefault(height, []).append(letter)
            return []
        self._begin_call()
        self._take_in(letter)
        return self._go_on()

    def timeout(self):
        """Gives up waiting in the step."""
        self._begin_call()
        if self.step == "propose":
            self.step = "prevote"
            self._sign(prevote(self.height, self.turn, None, None))
        elif self.step == "prevote":
            self.step = "precommit"
            self._sign(precommit(self.height, self.turn, None))
        else:
            self._enter(self.turn + 1)
        return self._go_on()

    def submit(self, command):
        """Lets a command wait in the pool."""
        self.pool.submit(command)

    def adopt(self, block, paper):
        """Commits a block of the keeper's height that a paper shows."""
        if not shows(self.chain.committee(), self.height, block, paper):
            raise BadPaper("the letters are not a paper for the block at the height of the keeper")
        self._begin_call()
        self._commit(block, list(paper))
        return self._go_on()

    def _begin_call(self):
        self.sent = []
        self.committed = False

    def _go_on(self):
        """Does what is possible until nothing is; returns the letters that the call signed."""
        while self._do_first():
            pass
        return self.sent

    def _do_first(self):
        """Does the first thing that is possible; whether there was one."""
        if len(self.book.commits) > 0 and not self.committed:
            _, block = self.book.commits[0]
            self._commit(block, commit_paper(self.book, block))
            return True
        if self.step == "propose" and self.turn in self.proposals:
            self.step = "prevote"
            self._prevote(self.proposals[self.turn])
            return True
        certified = self._certified(self.turn)
        if self.step == "prevote" and certified is not None:
            self.step = "precommit"
            self._sign(precommit(self.height, self.turn, certified))
            return True
        return False

    def _commit(self, block, paper):
        """Commits a block, and enters the first turn of the next height."""
        self.committed = True
        self.papers.append(paper)
        self.chain.extend(block)
        self.pool.remove(block)
        self._reach()
        for letter in self.later.pop(self.height, []):
            self._take_in(letter)
        self._enter_first_turn()

    def _reach(self):
        """Goes to the height that follows the blocks, with nothing known of it yet."""
        self.height = self.chain.height()
        self.book = Book(self.chain.committee(), self.height)
        # For each turn, the block of the proposal that counts.
        self.proposals = {}

    def _enter_first_turn(self):
        # What was signed before a crash binds in its turns, so the keeper does not go behind the latest one.
        self._enter(self.journal.last_turn(self.height))

    def _enter(self, turn):
        """Enters a turn of the height."""
        self.turn = turn
        self.step = "propose"
        if self._is_leader(self.who, turn):
            self._sign(proposal(self.height, turn, self._choice()))

    def _choice(self):
        """The block that the keeper proposes in its turn."""
        if len(self.book.certificates) > 0:
            return self._certified(max([turn for turn, _ in self.book.certificates]))
        waiting = self.pool.block()
        if waiting != "":
            return waiting
        return f"b{self.height}t{self.turn}"

    def _certified(self, turn):
        """The block of the certificate that the book found first in a turn, or None."""
        for found, block in self.book.certificates:
            if found == turn:
                return block
        return None

    def _prevote(self, block):
        """Signs a prevote for a block, or for none if the journal refuses."""
        lean = self.book.latest(block, self.turn)
        if not self._sign(prevote(self.height, self.turn, block, lean)):
            self._sign(prevote(self.height, self.turn, None, None))

    def _sign(self, statement):
        """Signs and takes in a statement; whether the journal did so, otherwise nothing is sent."""
        try:
            letter = self.journal.sign(statement)
        except Refused:
            return False
        self.sent.append(letter)
        self._take_in(letter)
        return True

    def _take_in(self, letter):
        """Takes in a letter of the height."""
        sender, statement = letter
        if is_vote(statement):
            self.book.add(letter)
        elif self._is_leader(sender, statement[TURN]):
            self.proposals.setdefault(statement[TURN], statement[BLOCK])

    def _is_leader(self, who, turn):
        return who == self.chain.committee().leader(self.height, turn)
