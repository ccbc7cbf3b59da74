"""Commands, and how the text of a block writes them."""

from tribunal.errors import BadCommand
from tribunal.machine import DIGITS, SIGNS
from tribunal.wire import MOST_SIGNS

MOST_DIGITS = 6
# For each kind, what stands before each of its parts.
MARKS = {"p": ("p", "q", "r"), "w": ("w", "x"), "d": ("d", "z"), "k": ("k", "b", "v")}
CODE_END = "z"


def command_text(command):
    """The text of a command."""
    kind, *parts = command
    text = "".join([f"{mark}{part}" for mark, part in zip(MARKS[kind], parts)])
    if kind == "d":
        return text + CODE_END
    return text


def checked_text(command):
    """The text of a command that fits."""
    if len(command) == 0 or command[0] not in MARKS:
        raise BadCommand("not a command")
    text = command_text(command)
    if len(text) > MOST_SIGNS:
        raise BadCommand("the text of the command is too long")
    # A wrong part, such as a number that is too large, is not read back as it was.
    if commands_of(text) != [command]:
        raise BadCommand("not a command")
    return text


def commands_of(block):
    """The commands of a block, or of any text; none if it is not the text of commands."""
    reader = Reader(block)
    found = []
    try:
        while reader.at < len(block):
            found.append(reader.read_command())
    except BadCommand:
        return []
    return found


def block_of(commands):
    """The block of a list of commands, and the number of its commands."""
    block = ""
    for many, command in enumerate(commands):
        longer = block + command_text(command)
        if len(longer) > MOST_SIGNS:
            return (block, many)
        block = longer
    return (block, len(commands))


class Reader:
    """A text that is read as commands; `at` is the place of the sign that is read next."""

    def __init__(self, text):
        self.text = text
        self.at = 0

    def read_command(self):
        """Reads one command; raises BadCommand if there is none."""
        kind = self.text[self.at]
        if kind not in MARKS:
            raise BadCommand("no command begins so")
        parts = []
        for mark in MARKS[kind]:
            self.skip(mark)
            # The sign before a code is also the one that ends it, and stands before nothing else.
            part = self.read_code() if mark == CODE_END else self.read_number()
            parts.append(part)
        return (kind, *parts)

    def skip(self, mark):
        if not self.text.startswith(mark, self.at):
            raise BadCommand("a part of a command is missing")
        self.at += 1

    def read_number(self):
        """Reads a number of one to six digits, without a leading zero."""
        digits = self.read_signs(DIGITS)
        if len(digits) < 1 or len(digits) > MOST_DIGITS or (digits[0] == "0" and digits != "0"):
            raise BadCommand("no right number")
        return int(digits)

    def read_code(self):
        """Reads a code and the sign that ends it."""
        code = self.read_signs(SIGNS)
        self.skip(CODE_END)
        return code

    def read_signs(self, allowed):
        """Reads as many signs as are allowed ones."""
        begin = self.at
        while self.at < len(self.text) and self.text[self.at] in allowed:
            self.at += 1
        return self.text[begin:self.at]
