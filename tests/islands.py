"""Rows to test with, and slow reckonings to test against, written from the document alone."""

import functools
import itertools
from fractions import Fraction

GOOD_NAMES = ("ash", "bo", "cole", "dyke", "elm", "fen", "goat", "hay",
              "ivy", "jay", "kelp", "lea", "moor", "nettle")
BAD_NAMES = ("", "ninesigns", "Ash", "aSh", "ASH", "a1", "7", "a b", " ash", "ash ", " ",
             "a-b", "a_b", "`", "{", "~", "abcdefghijklmnop")

# bo lies within ash, cole crosses ash, elm lies apart from all others.
ROW = ["ash", "bo", "bo", "cole", "ash", "cole", "elm", "elm"]
# What tells no plot of it.
NO_PLOTS = [
    ("bo",), ("bo", "cole"), ("ash", "bo", "cole"), ("ash", "elm"), ("bo", "elm"), ("cole", "elm"),
    ("ash", "bo", "cole", "elm"), ("bo", "ash"), ("cole", "ash"), ("ash", "ash"), ("elm", "elm"),
    ("ash", "bo", "bo"), ("zed",), ("ash", "zed"), ("",), ("", "ash"), ("Ash",), ("ash ",), ("ash bo",),
    ("a",), ("ash", "cole", "cole"), ("ash", "ash", "bo"), ("cole", "zed"),
]


def grid(wide, long, names=GOOD_NAMES):
    """So many ditches side by side, each crossed by so many others."""
    first, second = list(names[:wide]), list(names[wide:wide + long])
    return first + second + first[::-1] + second[::-1]


def diagrams(many):
    """All ways to pair 2 * many places, as lists of numbers."""
    if many == 0:
        yield []
        return
    for rest in diagrams(many - 1):
        rest = [number + 1 for number in rest]
        for to in range(len(rest) + 1):
            yield [0] + rest[:to] + [0] + rest[to:]


def crosses(row, one, other):
    """Read off the order of the four ends."""
    ends = [name for name in row if name in (one, other)]
    return one != other and ends[0] == ends[2]


def barred(row):
    """All triples of ditches of which each two cross, rising."""
    return [three for three in itertools.combinations(sorted(set(row)), 3)
            if all(crosses(row, *two) for two in itertools.combinations(three, 2))]


def small_rows(most=4):
    """All good rows of few ditches, of up to three ditches under all namings."""
    for many in range(most + 1):
        names = GOOD_NAMES[:many]
        namings = list(itertools.permutations(names)) if many <= 3 else [names, names[::-1]]
        for numbers in diagrams(many):
            for naming in namings:
                row = [naming[number] for number in numbers]
                if not barred(row):
                    yield row


def numbers_from(seed):
    """Endless numbers that look drawn by lot, the same ones each time."""
    while True:
        seed = (seed * 1103515245 + 12345) & 0x7FFFFFFF
        yield seed >> 8


def drawn(seed, things, many):
    """So many of some things, as if drawn by lot, each as often as it comes."""
    numbers = numbers_from(seed)
    return [things[next(numbers) % len(things)] for time in range(many)]


def dug_row(seed, many, row=()):
    """A good row of so many ditches, dug at any gaps, maybe of a row that is there."""
    numbers = numbers_from(seed)
    row = list(row)
    names = sorted([name for name in GOOD_NAMES[:many] if name not in row], key=lambda name: next(numbers))
    while names:
        at, to = sorted([next(numbers) % (len(row) + 1), next(numbers) % (len(row) + 1)])
        more = row[:at] + names[:1] + row[at:to] + names[:1] + row[to:]
        if not barred(more):
            row = more
            names = names[1:]
    return row


def large_rows():
    """Rows of up to 14 ditches: dug anywhere, grids, all apart, all within one another."""
    rows = [dug_row(seed, many) for seed in range(4) for many in (5, 6, 7, 9, 11, 14)]
    rows += [grid(7, 7), grid(1, 13), grid(13, 1), grid(5, 9), grid(3, 3), grid(2, 4)]
    rows += [grid(7, 7, GOOD_NAMES[::-1]), grid(14, 0)]
    rows += [[name for name in GOOD_NAMES for end in range(2)]]
    return rows


def rows():
    return list(small_rows()) + large_rows()


def sized_rows():
    """Rows of each number of ditches from none to 14: dug anywhere, dug through grids, and grids."""
    rows = [dug_row(seed + many, many) for many in range(15) for seed in (100, 200)]
    rows += [dug_row(many, many, grid(3, 3, GOOD_NAMES[many % 7:])) for many in (13, 14)]
    rows += [dug_row(seed, 14, grid(4, 5, GOOD_NAMES[::-1])) for seed in (5, 6)]
    for many in range(2, 15):
        wide, narrow = [grid(part, many - part, drawn_order(many)) for part in (many // 2, many // 3)]
        # The stone of a grid lies at its corner, of a turned one anywhere.
        rows += [wide, narrow[many - 1:] + narrow[:many - 1]]
    return rows


def drawn_order(seed):
    """All good names in some order."""
    numbers = numbers_from(seed)
    return sorted(GOOD_NAMES, key=lambda name: next(numbers))


def off_choices(row):
    """All choices of banks, each as the tuple of the ditches that it lies off."""
    names = sorted(set(row))
    for many in range(len(names) + 1):
        yield from itertools.combinations(names, many)


def without_spot(row):
    """All (one, other, (off one, off other)): choices of two banks that have no spot."""
    found = []
    for one, other in itertools.permutations(sorted(set(row)), 2):
        ends = [name for name in row if name in (one, other)]
        if ends == [other, one, one, other]:
            found.append((one, other, (True, False)))
        if ends == [one, one, other, other]:
            found.append((one, other, (True, True)))
    return found


def plots_by_banks(row):
    """All choices of banks of which each two go together, in order."""
    rules = without_spot(row)
    return [off for off in off_choices(row)
            if not any((one in off, other in off) == banks for one, other, banks in rules)]


def side(one, other, spot):
    """On which side of the line through two spots a third lies: below, at or above 0."""
    return ((other[0] - one[0]) * (spot[1] - one[1]) - (other[1] - one[1]) * (spot[0] - one[0]))


def meeting_spot(one, other):
    """Where two straight ditches cross."""
    (a, b), (c, d) = one, other
    part = Fraction(side(c, d, a), side(c, d, a) - side(c, d, b))
    return (a[0] + part * (b[0] - a[0]), a[1] + part * (b[1] - a[1]))


def bow(number):
    """A spot of the shore, which is laid out as a bow: place k is the spot of 2k, the gap ahead of 2k - 1."""
    return (number, number * number)


def laid_out(row):
    """The two spots of each ditch, by name."""
    return {name: tuple(bow(2 * at) for at, end in enumerate(row) if end == name) for name in sorted(set(row))}


def off_at(lines, spot):
    """All ditches on whose off bank a spot lies, rising; a ditch on which it lies is none of them."""
    return tuple(name for name, line in lines.items() if side(*line, spot) * side(*line, bow(-1)) < 0)


def off_crossing(row, one, other):
    """All ditches on whose off bank two straight ditches cross."""
    lines = laid_out(row)
    spot = meeting_spot(lines.pop(one), lines.pop(other))
    return off_at(lines, spot)


def plots_by_spots(row):
    """All plots of an island that is laid out with straight ditches, in order."""
    return list(plots_of_spots(tuple(row)))


@functools.lru_cache(None)
def plots_of_spots(row):
    # Each plot has a crossing, or the shore, at its edge.
    lines = laid_out(row)
    found = {off_at(lines, bow(2 * gap - 1)) for gap in range(len(row) + 1)}
    for one, other in itertools.combinations(lines, 2):
        if crosses(row, one, other):
            rest = off_crossing(row, one, other)
            for more in ((), (one,), (other,), (one, other)):
                found.add(tuple(sorted(rest + more)))
    return sorted(found, key=lambda plot: (len(plot), plot))


def beside(row):
    """Of each plot the neighbours by ditch, found by comparing each plot's banks with each other's."""
    found = {plot: {} for plot in plots_by_spots(row)}
    for one, other in itertools.permutations(found, 2):
        unlike = [name for name in set(row) if (name in one) != (name in other)]
        if len(unlike) == 1:
            found[one][unlike[0]] = other
    return found


def counted(near, one):
    """Of each plot (steps, walks): how far it is from one plot by neighbours, and by how many such walks."""
    found = {one: (0, 1)}
    edge = {one: 1}
    while edge:
        ahead = {}
        for plot, many in edge.items():
            for over in near[plot].values():
                if over not in found:
                    ahead[over] = ahead.get(over, 0) + many
        steps = found[next(iter(edge))][0] + 1
        found.update({plot: (steps, many) for plot, many in ahead.items()})
        edge = ahead
    return found


def all_walks(near, one, other):
    """All shortest walks between two plots, listed and sorted."""
    steps = {plot: told[0] for plot, told in counted(near, other).items()}

    def listed(plot):
        if plot == other:
            return [[]]
        return [[name] + rest for name, over in near[plot].items() if steps[over] < steps[plot]
                for rest in listed(over)]

    return sorted(listed(one))


def farthest(near):
    """Two plots that as many ditches part as any two."""
    return max(((one, other) for one in near for other in near),
               key=lambda two: len(set(two[0]) ^ set(two[1])))


def drawn_walk(seed, near, plot, many):
    """A walk of so many steps over any ditches, and the plot to which it leads."""
    numbers = numbers_from(seed)
    steps = []
    while len(steps) < many and near[plot]:
        name = sorted(near[plot])[next(numbers) % len(near[plot])]
        steps.append(name)
        plot = near[plot][name]
    return steps, plot


def crowds(row, seed):
    """Crowds of none, of one, of some that stand in them several times, and of 60."""
    there = plots_by_spots(row)
    some = drawn(seed, there, 4)
    return [[], there[-1:], some, some + some[:2] + some[:1], drawn(seed + 1, there, 11), drawn(seed + 2, there, 60),
            drawn(seed + 3, some, 60)]


def side_of(plot, name):
    """The bank of a ditch on which a plot lies."""
    return ("home", "off")[name in plot]


def parted(one, other):
    """On unlike banks of how many ditches two plots lie."""
    return len(set(one) ^ set(other))
