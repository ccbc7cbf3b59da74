"""The court: charges against replicas that signed statements that clash."""

from tribunal.votes import clash


class Charge:
    """Two letters of a replica that are to convict it."""

    def __init__(self, who, first, second):
        self.who = who
        self.first = first
        self.second = second


def holds(charge):
    """Whether both letters are the replica's own and their statements clash."""
    first_sender, first = charge.first
    second_sender, second = charge.second
    return first_sender == charge.who and second_sender == charge.who and clash(first, second)


def charge_of(letters, who):
    """The charge against a replica among some letters, or None."""
    earlier = []
    for letter in letters:
        if letter[0] == who:
            first = _first_clash(earlier, letter)
            if first is not None:
                return Charge(who, first, letter)
            earlier.append(letter)
    return None


def charges(committee, letters):
    """The charges against all members, by member."""
    found = [charge_of(letters, who) for who in range(committee.size)]
    return [charge for charge in found if charge is not None]


def _first_clash(earlier, letter):
    """The first of the earlier letters that clashes with a letter, or None."""
    for before in earlier:
        if clash(before[1], letter[1]):
            return before
    return None
