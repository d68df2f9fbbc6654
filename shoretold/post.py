"""Letters that come in any order, and what they tell done on an island in the order of their numbers."""

from shoretold.errors import BadNumber, Clash, ShoreError
from shoretold.island import Island
from shoretold.notes import deed_in

LAST_NUMBER = 999


class Post:
    """The letters that have come, and the island on which they are done; no letter at first."""

    def __init__(self):
        self.island = Island()
        self.lines = {}
        # All letters of lower numbers have had their turn.
        self.ahead = 0
        self.failed = []

    def take(self, number, line):
        """Takes a letter, and tells the numbers of those whose turn has come by it, rising."""
        if not 0 <= number <= LAST_NUMBER:
            raise BadNumber(f"no letter has the number {number}")
        if self.lines.setdefault(number, line) != line:
            raise Clash(f"letter {number} came with another line")
        come = []
        while self.ahead in self.lines:
            come.append(self.ahead)
            self.done_or_lost(self.ahead)
            self.ahead += 1
        return come

    def done_or_lost(self, number):
        """Does what a letter tells, or counts it among the lost ones."""
        deed = deed_in(self.lines[number])
        if deed is None:
            self.failed.append(number)
            return
        try:
            self.island.do(deed)
        except ShoreError:
            self.failed.append(number)

    def waiting(self):
        """The numbers of letters whose turn hasn't come, rising."""
        return [number for number in sorted(self.lines) if number >= self.ahead]

    def lost(self):
        """The numbers of lost letters, rising."""
        return list(self.failed)
