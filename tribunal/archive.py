"""Archives: blocks and their papers as lines."""

from tribunal.client import Client
from tribunal.errors import BadArchive, BadLine, BadPaper
from tribunal.wire import is_block, is_number, letter_line, read_letter

HEAD = "block"


def archive_lines(blocks, papers):
    """The lines of an archive."""
    lines = []
    for block, paper in zip(blocks, papers):
        lines.append(f"{HEAD} {block} {len(paper)}")
        lines.extend([letter_line(letter) for letter in paper])
    return lines


def read_archive(weights, grants, lines):
    """The pairs of a block and a paper that an archive holds, without one that is torn at the end."""
    client = Client(weights, grants)
    entries = []
    at = 0
    while at < len(lines):
        entry = _entry_at(lines, at)
        if entry is None:
            return entries
        block, paper = entry
        last = at + len(paper)
        try:
            client.follow(block, paper)
        except BadPaper:
            if last == len(lines) - 1:
                return entries
            raise BadArchive(at) from None
        entries.append(entry)
        at = last + 1
    return entries


def _entry_at(lines, at):
    """The block and the paper behind a head line, or None if their lines are torn."""
    head = _read_head(lines[at])
    if head is None:
        _refuse_before_end(lines, at)
        return None
    block, many = head
    last = at + many
    if last >= len(lines):
        return None
    paper = []
    for place in range(at + 1, last + 1):
        try:
            paper.append(read_letter(lines[place]))
        except BadLine:
            _refuse_before_end(lines, place)
            return None
    return (block, paper)


def _read_head(line):
    """The block of a head line and the number of its letters, or None if it cannot be read."""
    words = line.split(" ")
    if len(words) != 3 or words[0] != HEAD or not is_block(words[1]) or not is_number(words[2]):
        return None
    return (words[1], int(words[2]))


def _refuse_before_end(lines, at):
    """Refuses a line that cannot be read, unless it is the last one, which may be torn."""
    if at < len(lines) - 1:
        raise BadArchive(at)
