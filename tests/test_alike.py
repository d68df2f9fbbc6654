"""Alike: islands of the same shape, and islands with the same plots."""

import inspect
import itertools
import unittest

from shoretold import alike
from shoretold.alike import same, unlike
from shoretold.shore import lie, mirrored, turned
from tests import islands
from tests.islands import ROW

# Names that rise in another order than those they stand for.
OTHER_NAMES = {name: other for name, other in zip(islands.GOOD_NAMES, islands.drawn_order(77))}


def renamed(row, names=OTHER_NAMES):
    return [names[name] for name in row]


def readings(row):
    """The row from each stone on, then the other way round from each stone on; an empty row reads one way."""
    for there in (row, row[::-1]):
        for by in range(max(1, len(row))):
            yield there[by:] + there[:by]


def reading_of(row, other):
    """Like `same`, by the numbers of the places at which each name stands."""
    if len(row) != len(other):
        return None
    shape = [[at for at, end in enumerate(row) if end == name] for name in row]
    for there in readings(other):
        if [[at for at, end in enumerate(there) if end == name] for name in there] == shape:
            return sorted(set(zip(row, there)))
    return None


def rows():
    return list(islands.small_rows(3)) + list(islands.small_rows())[::3] + islands.sized_rows()


class Interface(unittest.TestCase):
    def test_arguments_bear_their_names(self):
        for ask in (same, unlike):
            self.assertIs(getattr(alike, ask.__name__), ask)
            self.assertEqual(list(inspect.signature(ask).parameters), ["row", "other"])


class Same(unittest.TestCase):
    def test_by_hand(self):
        self.assertEqual(same([], []), [])
        self.assertEqual(same(["ash"] * 2, ["bo"] * 2), [("ash", "bo")])
        self.assertEqual(same(["ash", "bo", "ash", "bo"], ["bo", "ash", "bo", "ash"]), [("ash", "bo"), ("bo", "ash")])
        # Read alike only from a later stone.
        self.assertEqual(same(["ash", "ash", "bo", "bo"], ["bo", "ash", "ash", "bo"]), [("ash", "ash"), ("bo", "bo")])
        self.assertEqual(same(["ash", "bo", "bo", "ash"], ["ash", "ash", "bo", "bo"]), [("ash", "ash"), ("bo", "bo")])
        self.assertEqual(same(["bo", "ash", "ash", "bo"], ["ash", "ash", "bo", "bo"]), [("ash", "bo"), ("bo", "ash")])
        self.assertIsNone(same(["ash", "bo", "ash", "bo"], ["ash", "ash", "bo", "bo"]))
        self.assertIsNone(same([], ["ash", "ash"]))
        self.assertIsNone(same(["ash", "ash"], []))

    def test_itself(self):
        for row in rows():
            told = same(row, row)
            self.assertEqual(told, [(name, name) for name in sorted(set(row))], row)
            self.assertEqual((type(told), {type(pair) for pair in told} | {tuple}), (list, {tuple}))

    def test_other_stones_mirrored_and_other_names(self):
        for row in rows():
            for by in sorted({0, 1, len(row) // 2, len(row) - 1, len(row)} & set(range(len(row) + 1))):
                for other in (turned(row, by), mirrored(turned(row, by)), turned(mirrored(row), by)):
                    for there in (other, renamed(other)):
                        told = same(row, there)
                        self.assertEqual(told, reading_of(row, there), (row, there))
                        self.read_alike(row, there, told)

    def read_alike(self, row, other, told):
        self.assertIsNotNone(told, (row, other))
        self.assertEqual([name for name, partner in told], sorted(set(row)))
        self.assertEqual(sorted(partner for name, partner in told), sorted(set(other)))
        self.assertIn([dict(told)[name] for name in row], list(readings(other)))

    def test_the_first_way_where_there_are_several(self):
        # A ring of ditches apart reads alike from each second stone on, and mirrored too.
        row = ["ash", "ash", "bo", "bo", "cole", "cole"]
        self.assertEqual(same(row, ["x", "x", "y", "y", "z", "z"]), [("ash", "x"), ("bo", "y"), ("cole", "z")])
        self.assertEqual(same(row, ["x", "y", "y", "z", "z", "x"]), [("ash", "y"), ("bo", "z"), ("cole", "x")])
        self.assertEqual(same(row, ["z", "y", "y", "x", "x", "z"]), [("ash", "y"), ("bo", "x"), ("cole", "z")])
        several = 0
        for row in rows():
            shape = lambda ends: [ends.index(name) for name in ends]
            ways = [there for there in readings(renamed(row)) if shape(there) == shape(row)]
            several += len(ways) > 1
            self.assertEqual(same(row, renamed(row)), sorted(set(zip(row, ways[0]))), row)
        self.assertGreater(several, 20)

    def test_only_mirrored(self):
        found = 0
        for row in rows():
            other = renamed(mirrored(row))
            unturned = all([there.index(name) for name in there] != [row.index(name) for name in row]
                           for there in itertools.islice(readings(other), max(1, len(row))))
            if unturned:
                found += 1
                self.assertEqual(same(row, other), reading_of(row, other), row)
                self.assertIsNotNone(same(row, other))
        self.assertGreater(found, 15)

    def test_any_two(self):
        found = []
        small = list(islands.small_rows(2)) + list(islands.small_rows(3))[::7] + list(islands.small_rows())[::40]
        for row, other in itertools.product(small, repeat=2):
            told = same(row, other)
            self.assertEqual(told, reading_of(row, other), (row, other))
            found.append(told is None)
        wide = [row for row in islands.sized_rows() if len(row) in (16, 28)]
        for row, other in itertools.product(wide, repeat=2):
            self.assertEqual(same(row, other), reading_of(row, other), (row, other))
        self.assertGreater(min(found.count(True), found.count(False)), 50)

    def test_rows_of_unlike_length(self):
        sized = islands.sized_rows()
        for row, other in zip(sized, sized[2:]):
            if len(row) != len(other):
                self.assertIsNone(same(row, other))
                self.assertIsNone(same(other, row))


class Unlike(unittest.TestCase):
    def test_by_hand(self):
        self.assertIsNone(unlike([], []))
        self.assertEqual(unlike([], ["ash", "ash"]), ("ditch", "ash"))
        self.assertEqual(unlike(["bo", "bo", "ash", "ash"], ["cole", "cole", "bo", "bo"]), ("ditch", "ash"))
        self.assertEqual(unlike(["cole", "cole", "bo", "bo"], ["bo", "bo", "ash", "ash"]), ("ditch", "ash"))
        self.assertIsNone(unlike(["ash", "ash", "bo", "bo"], ["bo", "bo", "ash", "ash"]))
        self.assertEqual(unlike(["ash", "ash", "bo", "bo"], ["bo", "ash", "ash", "bo"]), ("lie", "ash", "bo"))
        # within one way about, around the other way.
        self.assertEqual(unlike(["ash", "bo", "bo", "ash"], ["bo", "ash", "ash", "bo"]), ("lie", "ash", "bo"))
        self.assertEqual(unlike(["bo", "ash", "bo", "ash"], ["bo", "ash", "ash", "bo"]), ("lie", "ash", "bo"))
        row = ["ash", "ash", "bo", "bo", "cole", "cole"]
        self.assertEqual(unlike(row, ["ash", "ash", "bo", "cole", "cole", "bo"]), ("lie", "bo", "cole"))
        self.assertEqual(unlike(row, ["ash", "cole", "ash", "cole", "bo", "bo"]), ("lie", "ash", "cole"))
        self.assertEqual(unlike(ROW, [name for name in ROW if name != "bo"]), ("ditch", "bo"))

    def due(self, row, other):
        only = sorted(set(row) ^ set(other))
        if only:
            return ("ditch", only[0])
        for one, last in itertools.combinations(sorted(set(row)), 2):
            if lie(row, one, last) != lie(other, one, last):
                return ("lie", one, last)
        return None

    def test_itself_and_other_stones(self):
        for row in rows():
            self.assertIsNone(unlike(row, row))
            self.assertIsNone(unlike(row, list(row)))
            # The other way round from the same stone each bank is the same.
            self.assertIsNone(unlike(row, mirrored(row)))
            for by in range(0, len(row) + 1, 3):
                self.assertEqual(unlike(row, turned(row, by)), self.due(row, turned(row, by)))

    def test_the_first_that_tells_them_apart_both_ways_about(self):
        seen = set()
        small = list(islands.small_rows(3))[::2] + list(islands.small_rows())[::30]
        sized = islands.sized_rows()
        pairs = list(itertools.product(small, repeat=2)) + list(zip(sized, sized[1:])) + list(zip(sized, sized[30:]))
        for row, other in pairs:
            told = unlike(row, other)
            self.assertEqual(told, self.due(row, other), (row, other))
            self.assertEqual(unlike(other, row), told)
            if told is not None:
                self.assertEqual({type(part) for part in told} | {type(told)}, {str, tuple})
                seen.add(told[0])
        self.assertEqual(seen, {"ditch", "lie"})

    def test_against_the_plots_where_the_names_are_the_same(self):
        found = []
        for row, other in itertools.product([row for row in islands.small_rows() if len(row) in (4, 6)], repeat=2):
            if len(row) == len(other):
                alike_plots = islands.plots_by_spots(row) == islands.plots_by_spots(other)
                self.assertIs(unlike(row, other) is None, alike_plots, (row, other))
                found.append(alike_plots)
        wide = [row for row in islands.sized_rows() if len(row) == 28]
        wide += [mirrored(row) for row in wide] + [turned(row, 5) for row in wide]
        for row, other in itertools.product(wide, repeat=2):
            alike_plots = islands.plots_by_spots(row) == islands.plots_by_spots(other)
            self.assertIs(unlike(row, other) is None, alike_plots, (row, other))
        self.assertGreater(min(found.count(True), found.count(False)), 100)


class NothingChanged(unittest.TestCase):
    def test_rows_handed_in_stay(self):
        for row in rows():
            for other in (renamed(mirrored(row)), turned(row, len(row) // 3), ["zed", "zed"]):
                kept = (list(row), list(other))
                same(row, other)
                unlike(row, other)
                self.assertEqual((row, other), kept)

    def test_changed_lists_change_nothing(self):
        for row in (ROW, [], islands.grid(3, 3)):
            first = same(row, row)
            told = list(first)
            first.reverse()
            first.append(("zed", "zed"))
            self.assertEqual(same(row, row), told)


if __name__ == "__main__":
    unittest.main()
