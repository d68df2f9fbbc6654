"""Rows to test with, and slow reckonings to test against, written from the document alone."""

import itertools
from fractions import Fraction

GOOD_NAMES = ("ash", "bo", "cole", "dyke", "elm", "fen", "goat", "hay",
              "ivy", "jay", "kelp", "lea", "moor", "nettle")
BAD_NAMES = ("", "ninesigns", "Ash", "aSh", "ASH", "a1", "7", "a b", " ash", "ash ", " ",
             "a-b", "a_b", "`", "{", "~", "abcdefghijklmnop")


def grid(wide, long, names=GOOD_NAMES):
    """So many ditches side by side, each crossed by so many others."""
    first, second = list(names[:wide]), list(names[wide:wide + long])
    return first + second + first[::-1] + second[::-1]


def diagrams(many):
    """All ways to pair 2 * many places, as lists of numbers."""
    if many == 0:
        yield []
        return
    for rest in diagrams(many - 1):
        rest = [number + 1 for number in rest]
        for to in range(len(rest) + 1):
            yield [0] + rest[:to] + [0] + rest[to:]


def crosses(row, one, other):
    """Read off the order of the four ends."""
    ends = [name for name in row if name in (one, other)]
    return one != other and ends[0] == ends[2]


def barred(row):
    """All triples of ditches of which each two cross, rising."""
    return [three for three in itertools.combinations(sorted(set(row)), 3)
            if all(crosses(row, *two) for two in itertools.combinations(three, 2))]


def small_rows(most=4):
    """All good rows of few ditches, of up to three ditches under all namings."""
    for many in range(most + 1):
        names = GOOD_NAMES[:many]
        namings = list(itertools.permutations(names)) if many <= 3 else [names, names[::-1]]
        for numbers in diagrams(many):
            for naming in namings:
                row = [naming[number] for number in numbers]
                if not barred(row):
                    yield row


def numbers_from(seed):
    """Endless numbers that look drawn by lot, the same ones each time."""
    while True:
        seed = (seed * 1103515245 + 12345) & 0x7FFFFFFF
        yield seed >> 8


def dug_row(seed, many):
    """A good row of so many ditches, dug at any gaps."""
    numbers = numbers_from(seed)
    names = sorted(GOOD_NAMES[:many], key=lambda name: next(numbers))
    row = []
    while names:
        at, to = sorted([next(numbers) % (len(row) + 1), next(numbers) % (len(row) + 1)])
        more = row[:at] + names[:1] + row[at:to] + names[:1] + row[to:]
        if not barred(more):
            row = more
            names = names[1:]
    return row


def large_rows():
    """Rows of up to 14 ditches: dug anywhere, grids, all apart, all within one another."""
    rows = [dug_row(seed, many) for seed in range(4) for many in (5, 6, 7, 9, 11, 14)]
    rows += [grid(7, 7), grid(1, 13), grid(13, 1), grid(5, 9), grid(3, 3), grid(2, 4)]
    rows += [grid(7, 7, GOOD_NAMES[::-1]), grid(14, 0)]
    rows += [[name for name in GOOD_NAMES for end in range(2)]]
    return rows


def rows():
    return list(small_rows()) + large_rows()


def off_choices(row):
    """All choices of banks, each as the tuple of the ditches that it lies off."""
    names = sorted(set(row))
    for many in range(len(names) + 1):
        yield from itertools.combinations(names, many)


def without_spot(row):
    """All (one, other, (off one, off other)): choices of two banks that have no spot."""
    found = []
    for one, other in itertools.permutations(sorted(set(row)), 2):
        ends = [name for name in row if name in (one, other)]
        if ends == [other, one, one, other]:
            found.append((one, other, (True, False)))
        if ends == [one, one, other, other]:
            found.append((one, other, (True, True)))
    return found


def plots_by_banks(row):
    """All choices of banks of which each two go together, in order."""
    rules = without_spot(row)
    return [off for off in off_choices(row)
            if not any((one in off, other in off) == banks for one, other, banks in rules)]


def side(one, other, spot):
    """On which side of the line through two spots a third lies: below, at or above 0."""
    return ((other[0] - one[0]) * (spot[1] - one[1]) - (other[1] - one[1]) * (spot[0] - one[0]))


def meeting_spot(one, other):
    """Where two straight ditches cross."""
    (a, b), (c, d) = one, other
    part = Fraction(side(c, d, a), side(c, d, a) - side(c, d, b))
    return (a[0] + part * (b[0] - a[0]), a[1] + part * (b[1] - a[1]))


def plots_by_spots(row):
    """All plots of an island that is laid out with straight ditches, in order.

    The shore is a bow on which each place k is the spot (2k, 4kk), each gap the spot ahead of it,
    and each plot has a crossing, or the shore, at its edge.
    """
    def bow(number):
        return (number, number * number)

    names = sorted(set(row))
    lines = {name: tuple(bow(2 * at) for at, end in enumerate(row) if end == name) for name in names}

    def off(spot, name):
        return (side(*lines[name], spot) > 0) != (side(*lines[name], bow(-1)) > 0)

    found = {tuple(name for name in names if off(bow(2 * gap - 1), name)) for gap in range(len(row) + 1)}
    for one, other in itertools.combinations(names, 2):
        if crosses(row, one, other):
            spot = meeting_spot(lines[one], lines[other])
            rest = [name for name in names if name not in (one, other) and off(spot, name)]
            for more in ([], [one], [other], [one, other]):
                found.add(tuple(sorted(rest + more)))
    return sorted(found, key=lambda plot: (len(plot), plot))
