"""Keepers for the tests, and what the document says of keepers, step by step."""

from letters import listed_certificate, listed_commit
from tribunal.book import Book
from tribunal.chain import Chain
from tribunal.commands import block_of, commands_of
from tribunal.journal import Journal
from tribunal.paper import commit_paper
from tribunal.replica import Replica
from tribunal.votes import clash, precommit, prevote, proposal

FOUR = (1, 1, 1, 1)


def keeper_of(who, weights=FOUR, blocks=(), signed=(), grants=()):
    """A keeper that has not started, behind some blocks and with some signed statements."""
    chain, journal = Chain(list(weights), list(grants)), Journal(who)
    for block in blocks:
        chain.extend(block)
    for statement in signed:
        journal.sign(statement)
    return Replica(who, chain, journal)


def started(who, weights=FOUR, blocks=(), signed=(), grants=()):
    keeper = keeper_of(who, weights, blocks, signed, grants)
    keeper.start()
    return keeper


def hear(keeper, letters):
    """Lets a keeper receive letters; returns all that it signs."""
    return [answer for letter in letters for answer in keeper.receive(letter)]


def state(keeper):
    """All that a keeper shows, as plain values."""
    return (
        keeper.height, keeper.turn, keeper.step, list(keeper.journal.signed), list(keeper.chain.blocks),
        list(keeper.chain.receipts), [list(paper) for paper in keeper.papers],
    )


class ListedKeeper:
    """Points 15 to 19 and 34, as slow as the words of the document."""

    def __init__(self, who, weights, blocks=(), signed=(), grants=()):
        self.who = who
        self.chain = Chain(list(weights), list(grants))
        for block in blocks:
            self.chain.extend(block)
        self.signed = list(signed)
        self.papers = []
        self.waiting = []
        self.later = []
        self.taken = []
        self.certificates, self.commits = [], []
        self.turn, self.step = self.first_turn(), "propose"

    def first_turn(self):
        return max([0] + [vote[2] for vote in self.signed if vote[1] == self.chain.height()])

    def state(self):
        return (
            self.chain.height(), self.turn, self.step, list(self.signed), list(self.chain.blocks),
            list(self.chain.receipts), [list(paper) for paper in self.papers],
        )

    def start(self):
        self.sent, self.done = [], False
        self.enter(self.first_turn())
        return self.what_follows()

    def receive(self, letter):
        self.sent, self.done = [], False
        height = letter[1][1]
        if height > self.chain.height():
            self.later.append(letter)
        if height != self.chain.height():
            return []
        self.take_in(letter)
        return self.what_follows()

    def timeout(self):
        self.sent, self.done = [], False
        height = self.chain.height()
        if self.step == "propose":
            self.step = "prevote"
            self.sign(prevote(height, self.turn, None, None))
        elif self.step == "prevote":
            self.step = "precommit"
            self.sign(precommit(height, self.turn, None))
        else:
            self.enter(self.turn + 1)
        return self.what_follows()

    def submit(self, command):
        if command not in self.waiting:
            self.waiting.append(command)

    def adopt(self, block, paper):
        self.sent, self.done = [], False
        self.commit(block, list(paper))
        return self.what_follows()

    def enter(self, turn):
        self.turn, self.step = turn, "propose"
        if self.leads(self.who, turn):
            block = f"b{self.chain.height()}t{turn}"
            if block_of(self.waiting)[0]:
                block = block_of(self.waiting)[0]
            if self.certificates:
                latest = max(found for found, _ in self.certificates)
                block = [certified for found, certified in self.certificates if found == latest][0]
            self.sign(proposal(self.chain.height(), turn, block))

    def leads(self, who, turn):
        return who == (self.chain.height() + turn) % self.chain.committee().size

    def sign(self, statement):
        if any(clash(before, statement) for before in self.signed):
            return False
        if statement not in self.signed:
            self.signed.append(statement)
        self.sent.append((self.who, statement))
        self.take_in((self.who, statement))
        return True

    def take_in(self, letter):
        if letter in self.taken:
            return
        self.taken.append(letter)
        turns, blocks = {vote[2] for _, vote in self.taken}, {vote[3] for _, vote in self.taken} - {None}
        asked = (self.chain.committee(), self.taken, self.chain.height())
        for turn in sorted(turns):
            for block in sorted(blocks):
                pair = (turn, block)
                if pair not in self.certificates and listed_certificate(*asked, *pair):
                    self.certificates.append(pair)
                if pair not in self.commits and listed_commit(*asked, *pair):
                    self.commits.append(pair)

    def proposed(self):
        """The block of the proposal that counts in the current turn, or None."""
        for sender, vote in self.taken:
            if vote[0] == "proposal" and vote[2] == self.turn and self.leads(sender, self.turn):
                return vote[3]
        return None

    def what_follows(self):
        height = self.chain.height()
        current = [block for turn, block in self.certificates if turn == self.turn]
        if self.commits and not self.done:
            block = self.commits[0][1]
            book = Book(self.chain.committee(), height)
            for letter in self.taken:
                book.add(letter)
            self.commit(block, commit_paper(book, block))
        elif self.step == "propose" and self.proposed() is not None:
            block = self.proposed()
            self.step = "prevote"
            leans = [turn for turn, found in self.certificates if found == block and turn < self.turn]
            if not self.sign(prevote(height, self.turn, block, max(leans, default=None))):
                self.sign(prevote(height, self.turn, None, None))
        elif self.step == "prevote" and current:
            self.step = "precommit"
            self.sign(precommit(height, self.turn, current[0]))
        else:
            return self.sent
        return self.what_follows()

    def commit(self, block, paper):
        self.done = True
        self.papers.append(paper)
        self.chain.extend(block)
        self.waiting = [command for command in self.waiting if command not in commands_of(block)]
        self.taken, self.certificates, self.commits = [], [], []
        reached = [letter for letter in self.later if letter[1][1] == self.chain.height()]
        for letter in reached:
            self.take_in(letter)
        self.enter(self.first_turn())
