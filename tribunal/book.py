"""Books: the votes for one height, and what they show."""

from tribunal.plain import certified_turns, committed_turns
from tribunal.votes import BLOCK, HEIGHT, is_vote


class Book:
    """The votes of the members for one height, each letter once, in the order in which they come."""

    def __init__(self, committee, height):
        self.committee = committee
        self.height = height
        self.certificates = []
        self.commits = []
        # A dict keeps the order of the letters, and finds a letter without going through them all.
        self._kept = {}
        self._by_block = {}

    def add(self, letter):
        """Keeps a letter; whether it is now kept and was not kept before."""
        if letter in self._kept or not self._belongs(letter):
            return False
        self._kept[letter] = True
        block = letter[1][BLOCK]
        self._by_block.setdefault(block, []).append(letter)
        self._enter(block)
        return True

    def letters(self):
        """The letters that are kept, in order."""
        return list(self._kept)

    def has_certificate(self, turn, block):
        """Whether there is a certificate for a block in a turn."""
        return (turn, block) in self.certificates

    def latest(self, block, turn):
        """The latest turn before the given one with a certificate for the block, or None."""
        turns = [found for found, of in self.certificates if of == block and found < turn]
        return max(turns, default=None)

    def _belongs(self, letter):
        """Whether a letter is a vote of a member for the height."""
        sender, statement = letter
        is_member = 0 <= sender < self.committee.size
        return is_member and is_vote(statement) and statement[HEIGHT] == self.height

    def _enter(self, block):
        """Enters what is new for a block: a letter shows nothing new for other blocks than its own."""
        letters = self._by_block[block]
        certified = certified_turns(self.committee, letters, self.height, block)
        committed = committed_turns(self.committee, letters, self.height, block)
        certificates = _missing(certified, block, self.certificates)
        commits = _missing(committed, block, self.commits)
        self.certificates.extend(certificates)
        self.commits.extend(commits)


def _missing(turns, block, pairs):
    """The pairs of the turns and a block that are not among the pairs."""
    return [(turn, block) for turn in turns if (turn, block) not in pairs]
