"""The errors that the program raises."""


class TribunalError(ValueError):
    """The base class of all errors of the program."""


class BadWeights(TribunalError):
    """No committee has these weights; `at` is the index of the first wrong one."""

    def __init__(self, at):
        super().__init__(f"no right weight at index {at}")
        self.at = at


class BadLine(TribunalError):
    """A line is not the line of a letter; `at` is the index of the first wrong word."""

    def __init__(self, at):
        super().__init__(f"no right word at index {at}")
        self.at = at


class BadJournal(TribunalError):
    """No journal has these lines; `at` is the index of the first wrong one."""

    def __init__(self, at):
        super().__init__(f"no right line of a journal at index {at}")
        self.at = at


class BadArchive(TribunalError):
    """No archive has these lines; `at` is the index of the line that is refused."""

    def __init__(self, at):
        super().__init__(f"no right line of an archive at index {at}")
        self.at = at


class BadScript(TribunalError):
    """A script cannot be played; `at` is the index of the first wrong line."""

    def __init__(self, at):
        super().__init__(f"no right line of a script at index {at}")
        self.at = at


class BadCommand(TribunalError):
    """A command does not fit, or is not a command."""


class Refused(TribunalError):
    """A journal does not sign a statement; `vote` is the signed one with which it clashes."""

    def __init__(self, vote):
        super().__init__("the statement clashes with one that was signed before")
        self.vote = vote


class BadPaper(TribunalError):
    """Some letters are not a paper for a block."""


class Forged(TribunalError):
    """A letter stands in the name of a replica that did not sign it."""
