"""Lines: how a letter is written as words, and read back."""

from tribunal.errors import BadLine
from tribunal.votes import precommit, prevote, proposal

LETTERS = "abcdefghijklmnopqrstuvwxyz"
BLOCK_SIGNS = "abcdefghijklmnopqrstuvwxyz0123456789"
KINDS = ("proposal", "prevote", "precommit")
NONE = "-"
MOST_DIGITS = 9
MOST_SIGNS = 60


def letter_line(letter):
    """The line of a letter."""
    sender, statement = letter
    return " ".join([str(sender)] + [_word(part) for part in statement])


def read_letter(line):
    """The letter that a line writes."""
    # Only a space separates words: a tab or a line feed is part of a word, which then does not fit.
    words = line.split(" ")
    sender = _number_at(words, 0)
    kind = _kind_at(words, 1)
    height = _number_at(words, 2)
    turn = _number_at(words, 3)
    block = _block_at(words, 4, kind)
    if kind == "prevote":
        lean = _lean_at(words, 5, turn)
        _end_at(words, 6)
        return (sender, prevote(height, turn, block, lean))
    _end_at(words, 5)
    if kind == "precommit":
        return (sender, precommit(height, turn, block))
    return (sender, proposal(height, turn, block))


def is_number(word):
    """Whether a word is an integer of at most nine digits, as lines have them."""
    # Signs such as the Arabic digits are digits as well, but not in a line.
    if not word.isascii() or not word.isdigit() or len(word) > MOST_DIGITS:
        return False
    return word == "0" or word[0] != "0"


def is_block(word):
    """Whether a word is a block."""
    if len(word) < 1 or len(word) > MOST_SIGNS or word[0] not in LETTERS:
        return False
    return all([sign in BLOCK_SIGNS for sign in word])


def _word(part):
    """A part of a statement, as a word."""
    if part is None:
        return NONE
    return str(part)


def _word_at(words, at):
    """The word at a place; the words before it are there and fit."""
    if at >= len(words):
        raise BadLine(len(words))
    return words[at]


def _number_at(words, at):
    word = _word_at(words, at)
    if not is_number(word):
        raise BadLine(at)
    return int(word)


def _kind_at(words, at):
    word = _word_at(words, at)
    if word not in KINDS:
        raise BadLine(at)
    return word


def _block_at(words, at, kind):
    word = _word_at(words, at)
    if word == NONE and kind != "proposal":
        return None
    if not is_block(word):
        raise BadLine(at)
    return word


def _lean_at(words, at, turn):
    word = _word_at(words, at)
    if word == NONE:
        return None
    lean = _number_at(words, at)
    if lean >= turn:
        raise BadLine(at)
    return lean


def _end_at(words, at):
    """Refuses a word behind the last one."""
    if len(words) > at:
        raise BadLine(at)
