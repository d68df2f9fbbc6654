"""Sides: neighbours over a ditch, the four plots round a crossing."""

import inspect
import itertools
import unittest

from shoretold import sides
from shoretold.errors import NoCrossing, NoDitch, NoPlot, NotBeside
from shoretold.plots import plots
from shoretold.shore import crossings, ditches, lie
from shoretold.sides import beyond, corners, neighbours
from tests import islands
from tests.islands import NO_PLOTS, ROW

STRANGERS = ("zed", "", "as", "ashes", "Ash", "ash bo")


def every_row():
    return list(islands.small_rows()) + islands.sized_rows()


class Interface(unittest.TestCase):
    def test_arguments_bear_their_names(self):
        told = {"beyond": "row plot name", "neighbours": "row plot", "corners": "row one other"}
        for name, arguments in told.items():
            with self.subTest(name=name):
                self.assertEqual(list(inspect.signature(getattr(sides, name)).parameters), arguments.split())


class Neighbours(unittest.TestCase):
    def test_by_hand(self):
        self.assertEqual(neighbours([], ()), [])
        self.assertEqual(neighbours(["ash", "ash"], ()), [("ash", ("ash",))])
        self.assertEqual(neighbours(["ash", "ash"], ("ash",)), [("ash", ())])
        self.assertEqual(neighbours(ROW, ()), [("ash", ("ash",)), ("cole", ("cole",)), ("elm", ("elm",))])
        self.assertEqual(neighbours(ROW, ("ash",)),
                         [("ash", ()), ("bo", ("ash", "bo")), ("cole", ("ash", "cole"))])
        self.assertEqual(neighbours(ROW, ("ash", "bo")), [("bo", ("ash",))])
        self.assertEqual(neighbours(ROW, ("elm",)), [("elm", ())])

    def test_just_the_plots_on_unlike_banks_of_one_ditch(self):
        for row in every_row():
            near = islands.beside(row)
            self.assertEqual(list(near), plots(row), row)
            for plot in near:
                told = neighbours(row, plot)
                self.assertEqual(told, sorted(near[plot].items()), (row, plot))
                self.assertIs(type(told), list)
                self.assertEqual({type(pair) for pair in told} | {type(over) for name, over in told} | {tuple},
                                 {tuple})

    def test_one_pair_more_than_ditches_that_cross(self):
        for row in every_row():
            pairs = [(name, plot, over) for plot in plots(row) for name, over in neighbours(row, plot)]
            for name, plot, over in pairs:
                self.assertIn((name, over, plot), pairs, row)
            for name in ditches(row):
                crossed = [pair for pair in crossings(row) if name in pair]
                told = [frozenset(pair[1:]) for pair in pairs if pair[0] == name]
                self.assertEqual(len(told), 2 * len(set(told)), (row, name))
                self.assertEqual(len(set(told)), len(crossed) + 1, (row, name))

    def test_each_plot_is_come_to_from_the_stone(self):
        for row in every_row():
            come = [()]
            for plot in come:
                come += [over for name, over in neighbours(row, plot) if over not in come]
            self.assertEqual(sorted(come), sorted(plots(row)), row)

    def test_no_plot(self):
        for plot in NO_PLOTS:
            with self.subTest(plot=plot), self.assertRaises(NoPlot):
                neighbours(ROW, plot)
        for row in ([], ["bo", "bo"], islands.grid(7, 7)):
            for plot in (("zed",), ("nettle", "ash"), ("bo", "bo"), ("",)):
                with self.subTest(row=row, plot=plot), self.assertRaises(NoPlot):
                    neighbours(row, plot)


class Beyond(unittest.TestCase):
    def test_each_neighbour_and_back_and_no_other_one(self):
        for row in every_row():
            near = islands.beside(row)
            for plot in near:
                for name in set(row):
                    self.beyond_or_refused(row, near, plot, name)

    def beyond_or_refused(self, row, near, plot, name):
        if name in near[plot]:
            over = beyond(row, plot, name)
            self.assertEqual(over, near[plot][name], (row, plot, name))
            self.assertIs(type(over), tuple)
            self.assertEqual(beyond(row, over, name), plot)
            return
        with self.assertRaises(NotBeside, msg=(row, plot, name)) as caught:
            beyond(row, plot, name)
        self.assertEqual(caught.exception.at, 0)
        self.assertIs(type(caught.exception.at), int)

    def test_strangers(self):
        for row in ([], ["bo", "bo"], ROW, islands.grid(3, 4)):
            for plot in plots(row):
                for name in STRANGERS:
                    if name not in row:
                        with self.subTest(row=row, plot=plot, name=name), self.assertRaises(NoDitch):
                            beyond(row, plot, name)

    def test_no_plot_ahead_of_no_ditch_and_not_beside(self):
        for plot in NO_PLOTS:
            for name in ("ash", "bo", "cole", "elm") + STRANGERS:
                with self.subTest(plot=plot, name=name), self.assertRaises(NoPlot):
                    beyond(ROW, plot, name)


class Corners(unittest.TestCase):
    def test_by_hand(self):
        self.assertEqual(corners(ROW, "ash", "cole"), [(), ("ash",), ("cole",), ("ash", "cole")])
        row = ["elm", "bo", "ash", "bo", "ash", "elm", "cole", "cole"]
        self.assertEqual(corners(row, "bo", "ash"),
                         [("elm",), ("ash", "elm"), ("bo", "elm"), ("ash", "bo", "elm")])
        # fen lies within ash, so the crossing is home of it; both lie within elm.
        row = ["elm", "ash", "fen", "fen", "bo", "ash", "bo", "elm"]
        self.assertEqual(corners(row, "ash", "bo"),
                         [("elm",), ("ash", "elm"), ("bo", "elm"), ("ash", "bo", "elm")])
        # bo lies within elm, which ash crosses.
        row = ["ash", "elm", "bo", "ash", "bo", "elm"]
        self.assertEqual(corners(row, "ash", "bo"), [("elm",), ("ash", "elm"), ("bo", "elm"), ("ash", "bo", "elm")])
        self.assertEqual(corners(row, "elm", "ash"), [(), ("ash",), ("elm",), ("ash", "elm")])

    def test_all_four_and_only_these(self):
        many = 0
        for row in every_row():
            there = plots(row)
            for one, other in crossings(row):
                many += 1
                self.four_round(row, there, one, other)
        self.assertGreater(many, 500)

    def four_round(self, row, there, one, other):
        told = corners(row, one, other)
        self.assertEqual(corners(row, other, one), told)
        self.assertEqual((type(told), {type(plot) for plot in told}), (list, {tuple}))
        alike = {}
        for plot in there:
            rest = tuple(name for name in plot if name not in (one, other))
            alike.setdefault(rest, []).append(plot)
        # The plots stand in order, so those alike but for the two ditches do, too.
        self.assertEqual([some for some in alike.values() if len(some) == 4], [told], (row, one, other))
        for plot in told:
            beside = [over for name, over in neighbours(row, plot) if over in told]
            self.assertEqual(len(beside), 2, (row, plot))

    def test_banks_of_the_spot_where_straight_ditches_cross(self):
        for row in every_row():
            for one, other in crossings(row):
                off = islands.off_crossing(row, one, other)
                self.assertEqual(corners(row, one, other)[0], off, (row, one, other))
                self.assertEqual(corners(row, one, other)[3], tuple(sorted(off + (one, other))), (row, one, other))

    def test_ditches_that_do_not_cross(self):
        lies = set()
        for row in every_row():
            for one, other in itertools.product(sorted(set(row)), repeat=2):
                if not islands.crosses(row, one, other):
                    lies.add(lie(row, one, other))
                    with self.assertRaises(NoCrossing, msg=(row, one, other)):
                        corners(row, one, other)
        self.assertEqual(lies, {"apart", "within", "around", "same"})

    def test_strangers_ahead_of_no_crossing(self):
        for row in ([], ["bo", "bo"], ROW, islands.grid(3, 4)):
            for stranger in STRANGERS:
                if stranger not in row:
                    pairs = [(stranger, stranger), (stranger, "zed"), ("zed", stranger)]
                    pairs += [pair for name in set(row) for pair in ((name, stranger), (stranger, name))]
                    for one, other in pairs:
                        with self.subTest(row=row, one=one, other=other), self.assertRaises(NoDitch):
                            corners(row, one, other)


class NothingChanged(unittest.TestCase):
    def test_rows_handed_in_stay(self):
        for row in every_row():
            kept = list(row)
            for plot in plots(row):
                for name, over in neighbours(row, plot):
                    beyond(row, plot, name)
            for one, other in crossings(row):
                corners(row, one, other)
            self.assertEqual(row, kept)

    def test_changed_lists_change_nothing(self):
        for ask in (lambda: neighbours(ROW, ()), lambda: neighbours(ROW, ("ash",)), lambda: neighbours([], ()),
                    lambda: corners(ROW, "ash", "cole"), lambda: plots(ROW)):
            first = ask()
            told = list(first)
            first.reverse()
            first.append(("zed", ("zed",)))
            self.assertEqual(ask(), told)


if __name__ == "__main__":
    unittest.main()
