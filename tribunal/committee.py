"""Committees: members with weights."""

from tribunal.errors import BadWeights

MOST_MEMBERS = 16
MOST_WEIGHT = 10 ** 12


class Committee:
    """Members, numbered from 0, each with a weight."""

    def __init__(self, weights):
        wrong = _first_wrong(weights)
        if wrong is not None:
            raise BadWeights(wrong)
        self.weights = tuple(weights)
        self.size = len(self.weights)
        self.total = sum(self.weights)

    def weight_of(self, members):
        """The weight of the listed members, each counted once."""
        listed = set(members)
        return sum([weight for member, weight in enumerate(self.weights) if member in listed])

    def is_quorum(self, members):
        """Whether the listed members have more than two thirds of the weight."""
        # Integers only: a quotient would round, and exactly two thirds are no quorum.
        return 3 * self.weight_of(members) > 2 * self.total

    def is_third(self, members):
        """Whether the listed members have more than a third of the weight."""
        return 3 * self.weight_of(members) > self.total

    def leader(self, height, turn):
        """The member that proposes a block at a height in a turn."""
        return (height + turn) % self.size


def _first_wrong(weights):
    """The index of the first weight that no committee has there, or None."""
    for at, weight in enumerate(weights):
        if at >= MOST_MEMBERS or weight < 1 or weight > MOST_WEIGHT:
            return at
    if len(weights) == 0:
        return 0
    return None
