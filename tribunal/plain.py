"""What a list of letters shows: certificates and commits."""

from tribunal.votes import BLOCK, HEIGHT, KIND, LEAN, TURN


def certified(committee, letters, height, turn, block):
    """Whether the letters contain a certificate for the block in the turn."""
    return turn in certified_turns(committee, letters, height, block)


def committed(committee, letters, height, turn, block):
    """Whether the letters commit the block in the turn."""
    return turn in committed_turns(committee, letters, height, block)


def certified_turns(committee, letters, height, block):
    """The turns in which the letters contain a certificate for the block, in ascending order."""
    prevotes = votes_by_turn(letters, "prevote", height, block)
    found = {}
    # A prevote leans on earlier turns only, so what is found so far decides whether it counts.
    for turn in sorted(prevotes):
        members = [letter[0] for letter in prevotes[turn] if counts(letter[1], found)]
        if committee.is_quorum(members):
            found[turn] = True
    return list(found)


def committed_turns(committee, letters, height, block):
    """The turns in which the letters commit the block, in ascending order."""
    precommits = votes_by_turn(letters, "precommit", height, block)
    found = []
    for turn in certified_turns(committee, letters, height, block):
        members = [letter[0] for letter in precommits.get(turn, [])]
        if committee.is_quorum(members):
            found.append(turn)
    return found


def votes_by_turn(letters, kind, height, block):
    """A dict of turns, each with the letters that vote in it for a block at a height, in their order."""
    found = {}
    # None is not a block: votes for none make no certificate and no commit.
    if block is None:
        return found
    for letter in letters:
        vote = letter[1]
        if vote[KIND] == kind and vote[HEIGHT] == height and vote[BLOCK] == block:
            found.setdefault(vote[TURN], []).append(letter)
    return found


def counts(prevote, turns):
    """Whether a prevote counts if its block has certificates in the turns."""
    lean = prevote[LEAN]
    return lean is None or (lean < prevote[TURN] and lean in turns)
