"""Papers: letters that show a commit, and the charges of two papers."""

from tribunal.court import charges
from tribunal.errors import BadPaper
from tribunal.plain import committed_turns, counts, votes_by_turn
from tribunal.votes import LEAN


def shows(committee, height, block, letters):
    """Whether the letters commit the block in some turn."""
    return shown_turn(committee, height, block, letters) is not None


def shown_turn(committee, height, block, letters):
    """The earliest turn in which the letters commit the block, or None."""
    return min(committed_turns(committee, letters, height, block), default=None)


def commit_paper(book, block):
    """The paper for a block that is made from a book."""
    turns = [found for found, of in book.commits if of == block]
    if len(turns) == 0:
        raise BadPaper("the book does not commit the block")
    turn = min(turns)
    precommits = votes_by_turn(book.letters(), "precommit", book.height, block)
    return _until_quorum(book.committee, precommits[turn]) + _prevotes(book, block, turn)


def accuse(committee, height, one, other):
    """The charges of two papers for different blocks."""
    first_block, first_paper = one
    second_block, second_paper = other
    if first_block == second_block:
        raise BadPaper("both papers are for the same block")
    for block, paper in (one, other):
        if not shows(committee, height, block, paper):
            raise BadPaper("the letters are not a paper for their block")
    return charges(committee, first_paper + second_paper)


def _prevotes(book, block, turn):
    """Prevotes that make the certificate of a turn and those on which they lean, later turns first."""
    prevotes = votes_by_turn(book.letters(), "prevote", book.height, block)
    certified = [found for found, of in book.certificates if of == block]
    taken = []
    waiting = [turn]
    while len(waiting) > 0:
        # Prevotes lean on earlier turns only, so the latest turn does not come up again.
        latest = max(waiting)
        counting = [letter for letter in prevotes[latest] if counts(letter[1], certified)]
        quorum = _until_quorum(book.committee, counting)
        leans = [letter[1][LEAN] for letter in quorum if letter[1][LEAN] is not None]
        waiting = [earlier for earlier in waiting if earlier != latest] + leans
        taken = taken + quorum
    return taken


def _until_quorum(committee, letters):
    """The first letter of each member, until the members are a quorum."""
    taken = {}
    for letter in letters:
        if not committee.is_quorum(list(taken)):
            taken.setdefault(letter[0], letter)
    return list(taken.values())
