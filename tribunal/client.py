"""Clients: they follow a chain by papers alone."""

from tribunal.chain import Chain
from tribunal.errors import BadPaper
from tribunal.paper import shows


class Client:
    """A chain to which only blocks with papers are added."""

    def __init__(self, weights, grants):
        self.chain = Chain(weights, grants)

    def follow(self, block, paper):
        """Adds a block that a paper shows at the next height; returns the number of blocks."""
        if not shows(self.chain.committee(), self.chain.height(), block, paper):
            raise BadPaper("the letters are not a paper for the block at the next height")
        self.chain.extend(block)
        return self.chain.height()

    def catch_up(self, entries):
        """Follows pairs of a block and a paper until one is refused; returns how many blocks were added."""
        for many, (block, paper) in enumerate(entries):
            try:
                self.follow(block, paper)
            except BadPaper:
                return many
        return len(entries)


def dispute(client, other):
    """The least height at which the blocks of two clients differ, or None."""
    for height, (block, another) in enumerate(zip(client.chain.blocks, other.chain.blocks)):
        if block != another:
            return height
    return None
