"""An island: what is on it now, the deeds that made it so, and taking them back."""

from shoretold.errors import NothingLeft
from shoretold.stand import Stand, apart_of, behind, bid_of, gate_of, kept_of, least_of, meeting_of, place_of
from shoretold.stand import plots_of, third_of, toll_of, walkers_on, way_of


class Island:
    """Ditches, walkers, grounds and moots; none of them at first."""

    def __init__(self):
        self.stand = Stand([], {}, {}, {})
        # Pairs of a deed and the stand to which taking it back, or doing it again, leads.
        self.counted = []
        self.undone = []

    def do(self, deed):
        """Does the deed that a tuple tells."""
        stand = behind(self.stand, deed)
        self.counted.append((deed, self.stand))
        self.stand = stand
        self.undone = []

    def dig(self, name, at, to, bank):
        """A ditch more, its ends at two gaps; ways that begin in a cut plot begin on that bank."""
        self.do(("dig", name, at, to, bank))

    def fill(self, name):
        """A ditch less."""
        self.do(("fill", name))

    def land(self, walker, gap):
        """A walker is set ashore at a gap."""
        self.do(("land", walker, gap))

    def walk(self, walker, ditch):
        """A walker crosses a ditch."""
        self.do(("walk", walker, ditch))

    def go(self, walker, plot):
        """A walker goes to a plot by the first shortest walk."""
        self.do(("go", walker, plot))

    def leave(self, walker):
        """A walker less."""
        self.do(("leave", walker))

    def fence(self, ground, walkers):
        """From now on the least ground that holds the places of some walkers."""
        self.do(("fence", ground, tuple(walkers)))

    def unfence(self, ground):
        """A ground less."""
        self.do(("unfence", ground))

    def call(self, moot, walkers):
        """From now on a moot bids these walkers."""
        self.do(("call", moot, tuple(walkers)))

    def close(self, moot):
        """A moot less."""
        self.do(("close", moot))

    def turn(self, by):
        """The stone is carried on by so many ends."""
        self.do(("turn", by))

    def undo(self):
        """Takes back the last deed that counts, and tells it."""
        if not self.counted:
            raise NothingLeft("no deed to take back")
        deed, before = self.counted.pop()
        self.undone.append((deed, self.stand))
        self.stand = before
        return deed

    def redo(self):
        """Does again what was taken back last, and tells it."""
        if not self.undone:
            raise NothingLeft("no deed to do again")
        deed, after = self.undone.pop()
        self.counted.append((deed, self.stand))
        self.stand = after
        return deed

    def twin(self):
        """An island that stands as this one does, and goes its own way from now on."""
        other = Island()
        other.stand = self.stand
        other.counted = list(self.counted)
        other.undone = list(self.undone)
        return other

    def deeds(self):
        """The deeds that count, as tuples."""
        return [deed for deed, before in self.counted]

    def row(self):
        """The row of ends."""
        return list(self.stand.shore)

    def plots(self):
        """All plots in order."""
        return plots_of(self.stand)

    def walkers(self):
        """The names of all walkers, rising."""
        return sorted(self.stand.ways)

    def grounds(self):
        """The names of all grounds, rising."""
        return sorted(self.stand.fences)

    def moots(self):
        """The names of all moots, rising."""
        return sorted(self.stand.bids)

    def place(self, walker):
        """The plot to which a walker's way leads."""
        return place_of(self.stand, walker)

    def way(self, walker):
        """The plot where a walker began, and the list of the ditches crossed since."""
        begin, steps = way_of(self.stand, walker)
        return (begin, list(steps))

    def ground(self, name):
        """The banks of a ground."""
        return kept_of(self.stand, name)

    def bidden(self, name):
        """The names that a moot bids, as called."""
        return bid_of(self.stand, name)

    def least(self, moot):
        """The least plots for the places of those bidden, in order."""
        return least_of(self.stand, moot)

    def toll(self, moot):
        """The toll for the places of those bidden."""
        return toll_of(self.stand, moot)

    def on_ground(self, ground):
        """The walkers whose places are of a ground, rising."""
        return walkers_on(self.stand, ground)

    def gate(self, ground, walker):
        """The gate of a ground for a walker's place."""
        return gate_of(self.stand, ground, walker)

    def meeting(self, names):
        """The first plot that all these grounds have, or the first two that have none in common and what parts them."""
        return meeting_of(self.stand, names)

    def apart(self, one, other):
        """The ditches that part two walkers, rising."""
        return apart_of(self.stand, one, other)

    def third(self, one, other, last):
        """The plot between three walkers."""
        return third_of(self.stand, one, other, last)
