"""Scripts: events of a net as lines."""

from tribunal.commands import command_text, commands_of
from tribunal.errors import BadLine, BadScript
from tribunal.net import Net
from tribunal.wire import MOST_SIGNS, is_number, letter_line, read_letter

# The events whose parts are all integers, with the number of these.
NUMBERED = {"deliver": 2, "timeout": 1, "assist": 2, "crash": 1}


def event_line(event):
    """The line of an event."""
    kind, *parts = event
    if kind == "inject":
        return f"{kind} {letter_line(parts[0])}"
    if kind == "submit":
        return f"{kind} {parts[0]} {command_text(parts[1])}"
    return " ".join([kind] + [str(part) for part in parts])


def read_event(line, at):
    """The event that a line writes; `at` is the index of the line, for the error."""
    kind, _, rest = line.partition(" ")
    if kind == "inject":
        return (kind, _read_letter(rest, at))
    words = rest.split(" ")
    if kind == "submit" and len(words) == 2:
        return (kind, _read_number(words[0], at), _read_command(words[1], at))
    if kind not in NUMBERED or len(words) != NUMBERED[kind]:
        raise BadScript(at)
    numbers = [_read_number(word, at) for word in words]
    return (kind, *numbers)


def play(weights, liars, grants, lines):
    """The net after the events of the lines."""
    player = Player(weights, liars, grants)
    for at, line in enumerate(lines):
        event = read_event(line, at)
        if not player.can_happen(event):
            raise BadScript(at)
        player.happen(event)
    return player.net


class Player:
    """A net in which events happen."""

    def __init__(self, weights, liars, grants):
        self.net = Net(weights, liars, grants)

    def can_happen(self, event):
        """Whether an event can happen: its letter and its members are there."""
        kind, *parts = event
        if kind == "inject":
            sender, _ = parts[0]
            return self._is_member(sender) and sender not in self.net.keepers
        if kind == "deliver":
            at, to = parts
            return at < len(self.net.bag) and self._is_member(to)
        if kind == "submit":
            return self._is_member(parts[0])
        return all([self._is_member(who) for who in parts])

    def happen(self, event):
        """Lets an event happen that can."""
        kind, *parts = event
        if kind == "deliver":
            self.net.deliver(*parts)
        elif kind == "timeout":
            self.net.timeout(*parts)
        elif kind == "inject":
            self.net.inject(*parts)
        elif kind == "submit":
            self.net.submit(*parts)
        elif kind == "assist":
            self.net.assist(*parts)
        else:
            self.net.crash(parts[0], "")

    def _is_member(self, who):
        return who < self.net.size


def _read_number(word, at):
    if not is_number(word):
        raise BadScript(at)
    return int(word)


def _read_letter(line, at):
    try:
        return read_letter(line)
    except BadLine:
        raise BadScript(at) from None


def _read_command(text, at):
    """The one command that a text writes, if it fits."""
    found = commands_of(text)
    if len(found) != 1 or len(text) > MOST_SIGNS:
        raise BadScript(at)
    return found[0]
