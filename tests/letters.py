"""Letters for the tests, and what the document says that they show, word for word."""

import random

from tribunal.votes import precommit, prevote, proposal


def prevotes(members, turn, block, lean=None, height=0):
    return [(who, prevote(height, turn, block, lean)) for who in members]


def precommits(members, turn, block, height=0):
    return [(who, precommit(height, turn, block)) for who in members]


def commit(members, turn, block, lean=None, height=0):
    """Prevotes and precommits of some members for a block in a turn."""
    return prevotes(members, turn, block, lean, height) + precommits(members, turn, block, height)


def orders(letters, many, seed):
    """The letters in order, backwards, and in some other orders that are always the same."""
    chosen = random.Random(seed)
    made = [list(letters), list(reversed(letters))]
    for _ in range(many):
        mixed = list(letters)
        chosen.shuffle(mixed)
        made.append(mixed)
    return made


def mixed_letters(seed, many, members=5, turns=4, blocks=("a", "a", "b", None), heights=(0,)):
    """Letters of all kinds, also of senders that are no members and with leans that are wrong."""
    chosen = random.Random(seed)
    made = []
    for _ in range(many):
        sender, height = chosen.randrange(members), chosen.choice(heights)
        turn, block = chosen.randrange(turns), chosen.choice(blocks)
        kind = chosen.choice(("prevote", "prevote", "prevote", "precommit", "precommit", "proposal"))
        if kind == "prevote":
            lean = chosen.choice((None, None) + tuple(range(turns)))
            made.append((sender, prevote(height, turn, block, lean)))
        elif kind == "precommit":
            made.append((sender, precommit(height, turn, block)))
        elif block is not None:
            made.append((sender, proposal(height, turn, block)))
    return made


def listed_certificate(committee, letters, height, turn, block):
    """Point 10, word for word; `block` is a block."""
    members = []
    for sender, vote in letters:
        if vote[:4] == ("prevote", height, turn, block):
            lean = vote[4]
            if lean is None or lean < turn and listed_certificate(committee, letters, height, lean, block):
                members.append(sender)
    return committee.is_quorum(members)


def listed_commit(committee, letters, height, turn, block):
    """Point 11, word for word; `block` is a block."""
    members = [sender for sender, vote in letters if vote == ("precommit", height, turn, block)]
    return listed_certificate(committee, letters, height, turn, block) and committee.is_quorum(members)
