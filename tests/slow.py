"""A slow island to test against: its grounds are sets of plots, its plots are read off straight ditches.

It is written from the document alone, and uses nothing of the package.
"""

import copy

from tests import islands

BANKS = ("home", "off")


def is_name(text):
    return 1 <= len(text) <= 8 and set(text) <= set("abcdefghijklmnopqrstuvwxyz")


def banks_of(row, some):
    """The banks that all of some plots share, as pairs, rising."""
    found = []
    for name in sorted(set(row)):
        sides = {islands.side_of(plot, name) for plot in some}
        if len(sides) == 1:
            found.append((name, sides.pop()))
    return found


def on_banks(row, banks):
    """All plots on some banks, in order."""
    return [plot for plot in islands.plots_by_spots(row)
            if all(islands.side_of(plot, name) == side for name, side in banks)]


def over(plot, name):
    """The banks of a plot but for the other one of a ditch."""
    return tuple(sorted(set(plot) ^ {name}))


def first_walk(row, one, other):
    """The first one, rising, of the shortest walks, step by step."""
    there = islands.plots_by_spots(row)
    steps = []
    while one != other:
        name = min(name for name in set(one) ^ set(other) if over(one, name) in there)
        steps.append(name)
        one = over(one, name)
    return steps


class SlowIsland:
    def __init__(self):
        self.row, self.ways, self.grounds, self.moots = [], {}, {}, {}

    def place(self, walker):
        plot, steps = self.ways[walker]
        for name in steps:
            plot = over(plot, name)
        return plot

    def refusal(self, deed):
        """The name of the first refusal that is due, None where the deed is done; `self.fields` are its fields."""
        self.fields = {}
        for name, is_due in getattr(self, deed[0] + "_refusals")(*deed[1:]):
            if is_due():
                return name
        return None

    def do(self, deed):
        getattr(self, deed[0])(*deed[1:])

    def gap_plot(self, gap):
        ahead = self.row[:gap]
        return tuple(name for name in sorted(set(self.row)) if ahead.count(name) == 1)

    # dig

    def dug_row(self, name, at, to):
        return self.row[:at] + [name] + self.row[at:to] + [name] + self.row[to:]

    def is_barred(self, name, at, to):
        three = islands.barred(self.dug_row(name, at, to))
        if three:
            self.fields = {"three": three[0]}
        return bool(three)

    def dig_refusals(self, name, at, to, bank):
        return [("BadBank", lambda: bank not in BANKS), ("BadName", lambda: not is_name(name)),
                ("Taken", lambda: name in self.row), ("Full", lambda: len(self.row) == 28),
                ("NoPlace", lambda: at < 0 or at > to or to > len(self.row)),
                ("Barred", lambda: self.is_barred(name, at, to))]

    def dig(self, name, at, to, bank):
        row = self.dug_row(name, at, to)
        there = islands.plots_by_spots(row)
        # On which banks of the new ditch each old plot lies.
        sides = {plot: [] for plot in islands.plots_by_spots(self.row)}
        for plot in there:
            sides[tuple(other for other in plot if other != name)].append(islands.side_of(plot, name))
        ways = {}
        for walker, (begin, steps) in self.ways.items():
            side = bank if len(sides[begin]) == 2 else sides[begin][0]
            first = begin if side == "home" else tuple(sorted(begin + (name,)))
            here, more = begin, []
            for step in steps:
                here = over(here, step)
                if side not in sides[here]:
                    more.append(name)
                    side = {"home": "off", "off": "home"}[side]
                more.append(step)
            ways[walker] = (first, more)
        self.grounds = {ground: {plot for plot in there if tuple(other for other in plot if other != name) in some}
                        for ground, some in self.grounds.items()}
        self.row, self.ways = row, ways

    # fill

    def fill_refusals(self, name):
        return [("NoDitch", lambda: name not in self.row)]

    def fill(self, name):
        def less(names):
            return [other for other in names if other != name]

        self.row = less(self.row)
        self.ways = {walker: (tuple(less(begin)), less(steps)) for walker, (begin, steps) in self.ways.items()}
        self.grounds = {ground: {tuple(less(plot)) for plot in some} for ground, some in self.grounds.items()}

    # turn

    def turn_refusals(self, by):
        return [("NoPlace", lambda: by < 0 or by > len(self.row))]

    def turn(self, by):
        stone = set(self.gap_plot(by))

        def told(plot):
            return tuple(sorted(set(plot) ^ stone))

        self.row = self.row[by:] + self.row[:by]
        self.ways = {walker: (told(begin), steps) for walker, (begin, steps) in self.ways.items()}
        self.grounds = {ground: {told(plot) for plot in some} for ground, some in self.grounds.items()}

    # walkers

    def land_refusals(self, walker, gap):
        return [("BadName", lambda: not is_name(walker)), ("Taken", lambda: walker in self.ways),
                ("Full", lambda: len(self.ways) == 8), ("NoPlace", lambda: gap < 0 or gap > len(self.row))]

    def land(self, walker, gap):
        self.ways[walker] = (self.gap_plot(gap), [])

    def walk_refusals(self, walker, ditch):
        self.fields = {"at": 0}
        return [("NoWalker", lambda: walker not in self.ways), ("Tired", lambda: len(self.ways[walker][1]) >= 40),
                ("NoDitch", lambda: ditch not in self.row),
                ("NotBeside",
                 lambda: over(self.place(walker), ditch) not in islands.plots_by_spots(self.row))]

    def walk(self, walker, ditch):
        begin, steps = self.ways[walker]
        self.ways[walker] = (begin, steps + [ditch])

    def go_refusals(self, walker, plot):
        return [("NoWalker", lambda: walker not in self.ways),
                ("NoPlot", lambda: plot not in islands.plots_by_spots(self.row)),
                ("Tired", lambda: len(self.ways[walker][1]) + islands.parted(self.place(walker), plot) > 40)]

    def go(self, walker, plot):
        begin, steps = self.ways[walker]
        self.ways[walker] = (begin, steps + first_walk(self.row, self.place(walker), plot))

    def leave_refusals(self, walker):
        return [("NoWalker", lambda: walker not in self.ways),
                ("Bidden", lambda: any(walker in names for names in self.moots.values()))]

    def leave(self, walker):
        del self.ways[walker]

    # grounds and moots

    def fence_refusals(self, ground, walkers):
        return [("BadName", lambda: not is_name(ground)), ("Full", lambda: len(set(self.grounds) - {ground}) >= 6),
                ("NoBody", lambda: not walkers), ("NoWalker", lambda: not set(walkers) <= set(self.ways))]

    def fence(self, ground, walkers):
        places = [self.place(walker) for walker in walkers]
        self.grounds[ground] = set(on_banks(self.row, banks_of(self.row, places)))

    def unfence_refusals(self, ground):
        return [("NoGround", lambda: ground not in self.grounds)]

    def unfence(self, ground):
        del self.grounds[ground]

    def call_refusals(self, moot, walkers):
        return [("BadName", lambda: not is_name(moot)), ("Full", lambda: len(set(self.moots) - {moot}) >= 4),
                ("NoBody", lambda: not walkers), ("NoWalker", lambda: not set(walkers) <= set(self.ways))]

    def call(self, moot, walkers):
        self.moots[moot] = list(walkers)

    def close_refusals(self, moot):
        return [("NoMoot", lambda: moot not in self.moots)]

    def close(self, moot):
        del self.moots[moot]

    # what can be asked

    def total(self, moot, plot):
        return sum(islands.parted(self.place(walker), plot) for walker in self.moots[moot])

    def least(self, moot):
        there = islands.plots_by_spots(self.row)
        fewest = min(self.total(moot, plot) for plot in there)
        return ([plot for plot in there if self.total(moot, plot) == fewest], fewest)

    def gate(self, ground, walker):
        return min(self.grounds[ground], key=lambda plot: islands.parted(plot, self.place(walker)))

    def asked(self):
        """All that stands on the island."""
        places = {walker: self.place(walker) for walker in sorted(self.ways)}
        return {
            "row": self.row,
            "plots": islands.plots_by_spots(self.row),
            "ways": {walker: self.ways[walker] for walker in places},
            "places": places,
            "grounds": {ground: banks_of(self.row, self.grounds[ground]) for ground in sorted(self.grounds)},
            "bodies": {ground: sorted(self.grounds[ground]) for ground in sorted(self.grounds)},
            "on": {ground: [walker for walker in places if places[walker] in self.grounds[ground]]
                   for ground in sorted(self.grounds)},
            "gates": {(ground, walker): self.gate(ground, walker)
                      for ground in sorted(self.grounds) for walker in places},
            "moots": {moot: (self.moots[moot],) + self.least(moot) for moot in sorted(self.moots)},
        }


class SlowDeeds:
    """A slow island with its deeds, kept as a row of all its states."""

    def __init__(self):
        self.states = [SlowIsland()]
        self.done = []
        self.undone = []

    def now(self):
        return self.states[-1]

    def do(self, deed):
        """The name of a refusal, or None where the deed was done."""
        refusal = self.now().refusal(deed)
        if refusal is None:
            state = copy.deepcopy(self.now())
            state.do(deed)
            self.states.append(state)
            self.done.append(deed)
            self.undone = []
        return refusal

    def undo(self):
        self.undone.append((self.done.pop(), self.states.pop()))
        return self.undone[-1][0]

    def redo(self):
        deed, state = self.undone.pop()
        self.done.append(deed)
        self.states.append(state)
        return deed


def asked(island):
    """All that can be asked of an island, in the form of the slow one's `asked`."""
    return {
        "row": island.row(),
        "plots": island.plots(),
        "ways": {walker: island.way(walker) for walker in island.walkers()},
        "places": {walker: island.place(walker) for walker in island.walkers()},
        "grounds": {ground: island.ground(ground) for ground in island.grounds()},
        "bodies": {ground: sorted(on_banks(island.row(), island.ground(ground))) for ground in island.grounds()},
        "on": {ground: island.on_ground(ground) for ground in island.grounds()},
        "gates": {(ground, walker): island.gate(ground, walker)
                  for ground in island.grounds() for walker in island.walkers()},
        "moots": {moot: (island.bidden(moot), island.least(moot), island.toll(moot)) for moot in island.moots()},
    }


WALKERS = ("ann", "bo", "cy", "dig", "eve", "home", "ivy", "off", "ash", "go")
GROUNDS = ("lea", "ann", "ash", "fence", "off", "moor", "z", "bo")
MOOTS = ("yule", "ann", "lea", "call", "ash", "home")
STRANGE = ("zed", "", "Ann", "ninesigns", "a b", "ash ")


ANY_DEEDS = ("dig dig dig fill land land walk walk walk go go go leave fence fence unfence call call close turn")
# Many ditches and long ways.
BUSY_DEEDS = ("dig dig dig dig dig land go go go go go go go walk fence call turn " * 3 + "fill leave unfence close")


class Drawer:
    """Deeds as if drawn by lot, mostly such as can be done."""

    def __init__(self, seed, words=ANY_DEEDS):
        self.numbers = islands.numbers_from(seed)
        self.words = words.split()

    def below(self, many):
        return next(self.numbers) % many

    def one_of(self, things):
        return things[self.below(len(things))]

    def mostly(self, things, others):
        """One of the things, now and then one of the others, or where there are no things."""
        return self.one_of(others) if not things or self.below(12) == 0 else self.one_of(things)

    def some_of(self, things, others):
        return tuple(self.mostly(things, others) for time in range(self.one_of((0, 1, 1, 2, 2, 3, 5))))

    def deed(self, island):
        """A deed for a slow island."""
        word = self.one_of(self.words)
        return (word,) + getattr(self, word)(island)

    def ditch(self, island):
        return self.mostly(sorted(set(island.row)), STRANGE + islands.GOOD_NAMES)

    def walker(self, island):
        return self.mostly(sorted(island.ways), WALKERS + STRANGE)

    def gap(self, island):
        return self.mostly(range(len(island.row) + 1), (-1, -5, len(island.row) + 1, len(island.row) + 9))

    def dig(self, island):
        free = [name for name in islands.GOOD_NAMES if name not in island.row]
        at, to = self.gap(island), self.gap(island)
        if self.below(10):
            at, to = sorted((at, to))
        return (self.mostly(free, STRANGE + islands.GOOD_NAMES), at, to, self.mostly(BANKS, ("", "Home", "on")))

    def fill(self, island):
        return (self.ditch(island),)

    def land(self, island):
        return (self.mostly(WALKERS, STRANGE), self.gap(island))

    def walk(self, island):
        walker = self.walker(island)
        beside = []
        if walker in island.ways:
            place = island.place(walker)
            beside = [name for name in sorted(set(island.row))
                      if over(place, name) in islands.plots_by_spots(island.row)]
        return (walker, self.one_of(beside) if beside and self.below(4) else self.ditch(island))

    def go(self, island):
        return (self.walker(island), self.mostly(islands.plots_by_spots(island.row), (("zed",), ("bo", "ash"), ("",))))

    def leave(self, island):
        return (self.walker(island),)

    def fence(self, island):
        return (self.mostly(GROUNDS, STRANGE), self.some_of(sorted(island.ways), STRANGE + WALKERS))

    def unfence(self, island):
        return (self.mostly(sorted(island.grounds), GROUNDS + STRANGE),)

    def call(self, island):
        return (self.mostly(MOOTS, STRANGE), self.some_of(sorted(island.ways), STRANGE + WALKERS))

    def close(self, island):
        return (self.mostly(sorted(island.moots), MOOTS + STRANGE),)

    def turn(self, island):
        return (self.gap(island),)


def drawn_deeds(seed, many, words=ANY_DEEDS):
    """So many deeds that count, one behind the other."""
    slow, drawer = SlowDeeds(), Drawer(seed, words)
    while len(slow.done) < many:
        slow.do(drawer.deed(slow.now()))
    return slow.done
