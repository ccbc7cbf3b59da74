"""Journals: what a replica has signed, and what it therefore does not sign any more."""

from tribunal.errors import BadJournal, BadLine, Refused
from tribunal.votes import HEIGHT, TURN, clash
from tribunal.wire import letter_line, read_letter


class Journal:
    """The statements that a replica has signed, each once, none of which clash."""

    def __init__(self, who):
        self.who = who
        self.signed = []

    def sign(self, statement):
        """Signs a statement and returns the letter."""
        for earlier in self.signed:
            if clash(earlier, statement):
                raise Refused(earlier)
        if statement not in self.signed:
            self.signed.append(statement)
        return (self.who, statement)

    def last_turn(self, height):
        """The latest turn of the signed statements of a height, or 0."""
        turns = [statement[TURN] for statement in self.signed if statement[HEIGHT] == height]
        return max(turns, default=0)

    def lines(self):
        """The lines of the letters of all signed statements, in order."""
        return [letter_line((self.who, statement)) for statement in self.signed]


def restore(who, lines):
    """The journal of a replica with these lines."""
    journal = Journal(who)
    for at, line in enumerate(lines):
        try:
            sender, statement = read_letter(line)
        except BadLine:
            # A crash tears the line that is being written, which is the last one.
            if at == len(lines) - 1:
                return journal
            raise BadJournal(at) from None
        if sender != who or statement in journal.signed:
            raise BadJournal(at)
        try:
            journal.sign(statement)
        except Refused:
            raise BadJournal(at) from None
    return journal
