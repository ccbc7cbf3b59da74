"""Statements of replicas, and which of them clash."""

# The places of the parts of a statement; only a prevote has a lean.
KIND = 0
HEIGHT = 1
TURN = 2
BLOCK = 3
LEAN = 4


def proposal(height, turn, block):
    """The statement that proposes a block."""
    return ("proposal", height, turn, block)


def prevote(height, turn, block, lean):
    """The vote for a block, or for none, that leans on an earlier turn, or on none."""
    return ("prevote", height, turn, block, lean)


def precommit(height, turn, block):
    """The vote to commit a block, or none."""
    return ("precommit", height, turn, block)


def is_vote(statement):
    """Whether a statement is a prevote or a precommit."""
    return statement[KIND] in ("prevote", "precommit")


def clash(one, other):
    """Whether two statements clash, in whichever order they are given."""
    if one[HEIGHT] != other[HEIGHT]:
        return False
    if one[KIND] == other[KIND]:
        return is_vote(one) and one[TURN] == other[TURN] and one[BLOCK] != other[BLOCK]
    return _abandons(one, other) or _abandons(other, one)


def _abandons(one, other):
    """Whether the first one commits to a block that the second one, a later prevote, leaves without cause."""
    if one[KIND] != "precommit" or other[KIND] != "prevote":
        return False
    # None is not a block: a precommit for none binds nobody, a prevote for none leaves no block.
    if one[BLOCK] is None or other[BLOCK] is None:
        return False
    if one[BLOCK] == other[BLOCK] or one[TURN] >= other[TURN]:
        return False
    return other[LEAN] is None or other[LEAN] < one[TURN]
