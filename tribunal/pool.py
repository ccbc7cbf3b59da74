"""Pools: commands that wait for a block."""

from tribunal.commands import block_of, checked_text, commands_of


class Pool:
    """The commands that wait, each once, in the order in which they came."""

    def __init__(self):
        self.waiting = []

    def submit(self, command):
        """Lets a command wait."""
        # A command that does not fit would end every block before it, and wait for ever.
        checked_text(command)
        if command not in self.waiting:
            self.waiting.append(command)

    def block(self):
        """The block of the waiting commands; the empty text if none wait."""
        block, _ = block_of(self.waiting)
        return block

    def remove(self, block):
        """Takes all commands of a block out of the pool."""
        gone = commands_of(block)
        self.waiting = [command for command in self.waiting if command not in gone]
