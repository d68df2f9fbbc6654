"""Plots: which there are, their banks, the shore that they have, how they are told from elsewhere."""

import inspect
import itertools
import unittest

from shoretold import plots as plots_file
from shoretold.errors import Barred, NoDitch, NoPlace, NoPlot
from shoretold.plots import at_gap, bank, gaps, is_plot, plots, retold
from shoretold.shore import crossings, ditches, put_in, turned
from tests import islands
from tests.islands import NO_PLOTS, ROW


class Interface(unittest.TestCase):
    def test_arguments_bear_their_names(self):
        told = {"is_plot": "row plot", "plots": "row", "bank": "row plot name", "at_gap": "row gap",
                "gaps": "row plot", "retold": "row plot by"}
        for name, arguments in told.items():
            with self.subTest(name=name):
                self.assertEqual(list(inspect.signature(getattr(plots_file, name)).parameters), arguments.split())


class IsPlot(unittest.TestCase):
    def test_each_choice_of_banks_as_the_document_tells(self):
        for row in islands.rows():
            good = set(islands.plots_by_banks(row))
            choices = list(islands.off_choices(row))
            # Of large rows each plot, and some of the many choices that are none.
            if len(choices) > 512:
                choices = sorted(good) + choices[::37]
            for off in choices:
                self.assertIs(is_plot(row, off), off in good, (row, off))

    def test_names_that_do_not_rise(self):
        for row in list(islands.small_rows()) + [islands.grid(2, 4)]:
            for plot in islands.plots_by_banks(row):
                for order in itertools.islice(itertools.permutations(plot), 1, None):
                    self.assertIs(is_plot(row, order), False)
                for name in plot:
                    self.assertIs(is_plot(row, tuple(sorted(plot + (name,)))), False)
                    self.assertIs(is_plot(row, plot + (name,)), False)

    def test_tuples_that_tell_no_plot(self):
        for plot in NO_PLOTS:
            with self.subTest(plot=plot):
                self.assertIs(is_plot(ROW, plot), False)

    def test_strangers(self):
        for row in ([], ["ash", "ash"], islands.grid(3, 3)):
            for plot in [()] + [(name,) for name in row[:1]]:
                self.assertIs(is_plot(row, plot), True)
                for stranger in ("", "zed", "Ash", "0"):
                    self.assertIs(is_plot(row, tuple(sorted(plot + (stranger,)))), False)


class AllPlots(unittest.TestCase):
    def test_by_hand(self):
        self.assertEqual(plots([]), [()])
        self.assertEqual(plots(["ash", "ash"]), [(), ("ash",)])
        self.assertEqual(plots(["bo", "ash", "bo", "ash"]), [(), ("ash",), ("bo",), ("ash", "bo")])
        self.assertEqual(plots(["bo", "ash", "ash", "bo"]), [(), ("bo",), ("ash", "bo")])
        self.assertEqual(plots(["bo", "bo", "ash", "ash"]), [(), ("ash",), ("bo",)])
        self.assertEqual(plots(ROW), [(), ("ash",), ("cole",), ("elm",), ("ash", "bo"), ("ash", "cole")])

    def test_each_choice_of_banks_that_go_together(self):
        for row in islands.rows() + list(islands.small_rows(5)):
            self.assertEqual(plots(row), islands.plots_by_banks(row), row)

    def test_as_the_island_lies_with_straight_ditches(self):
        for row in islands.rows() + [islands.dug_row(seed, 14) for seed in range(20, 60)]:
            self.assertEqual(plots(row), islands.plots_by_spots(row), row)

    def test_one_more_than_ditches_and_crossings(self):
        for row in islands.rows() + [islands.dug_row(seed, 14) for seed in range(20, 60)]:
            self.assertEqual(len(plots(row)), 1 + len(ditches(row)) + len(crossings(row)), row)
        self.assertEqual(len(plots(islands.grid(7, 7))), 64)

    def test_tuples_in_order_each_once(self):
        for row in islands.rows():
            told = plots(row)
            self.assertIs(type(told), list)
            self.assertEqual({type(plot) for plot in told}, {tuple})
            self.assertEqual(told, sorted(set(told), key=lambda plot: (len(plot), plot)))
            self.assertEqual([is_plot(row, plot) for plot in told], [True] * len(told))

    def test_found_without_going_through_all_choices(self):
        names = [first + second for first in "abcdefgh" for second in "abcdefgh"]
        self.assertEqual(len(plots(names + names[::-1])), 65)
        self.assertEqual(len(plots(islands.grid(32, 32, names))), 1 + 64 + 32 * 32)


class Banks(unittest.TestCase):
    def test_both_words(self):
        for row in islands.rows():
            for plot in plots(row):
                for name in set(row):
                    self.assertEqual(bank(row, plot, name), "off" if name in plot else "home")

    def test_no_plot_ahead_of_no_ditch(self):
        for plot in NO_PLOTS:
            for name in ("ash", "zed", ""):
                with self.subTest(plot=plot, name=name), self.assertRaises(NoPlot):
                    bank(ROW, plot, name)
        for plot in plots(ROW):
            for name in ("zed", "", "as", "Ash"):
                with self.subTest(plot=plot, name=name), self.assertRaises(NoDitch):
                    bank(ROW, plot, name)
        with self.assertRaises(NoDitch):
            bank([], (), "ash")


class Shore(unittest.TestCase):
    def test_by_hand(self):
        told = [(), ("ash",), ("ash", "bo"), ("ash",), ("ash", "cole"), ("cole",), (), ("elm",), ()]
        self.assertEqual([at_gap(ROW, gap) for gap in range(9)], told)
        self.assertEqual(at_gap([], 0), ())
        self.assertEqual([at_gap(["bo", "ash", "bo", "ash"], gap) for gap in range(5)],
                         [(), ("bo",), ("ash", "bo"), ("ash",), ()])

    def test_each_gap_belongs_to_a_plot(self):
        for row in islands.rows():
            for gap in range(len(row) + 1):
                told = at_gap(row, gap)
                self.assertEqual(told, tuple(sorted(name for name in set(row) if row[:gap].count(name) == 1)))
                self.assertIn(gap, gaps(row, told))
            self.assertEqual(at_gap(row, 0), ())
            self.assertEqual(at_gap(row, len(row)), ())

    def test_gaps_below_and_beyond(self):
        for row in ([], ["ash", "ash"], ROW, islands.grid(7, 7)):
            for gap in (-1, -2, -len(row) - 1, len(row) + 1, len(row) + 2, 1000):
                with self.subTest(row=row, gap=gap), self.assertRaises(NoPlace):
                    at_gap(row, gap)

    def test_all_gaps_of_a_plot(self):
        self.assertEqual(gaps([], ()), [0])
        self.assertEqual(gaps(["ash", "ash"], ()), [0, 2])
        self.assertEqual(gaps(["ash", "ash"], ("ash",)), [1])
        self.assertEqual(gaps(ROW, ()), [0, 6, 8])
        self.assertEqual(gaps(ROW, ("ash",)), [1, 3])
        self.assertEqual(gaps(["ash", "bo", "bo", "ash"], ("ash",)), [1, 3])
        for row in islands.rows():
            for plot in plots(row):
                self.assertEqual(gaps(row, plot), [gap for gap in range(len(row) + 1) if at_gap(row, gap) == plot])
            self.assertEqual({gaps(row, ())[0], gaps(row, ())[-1]}, {0, len(row)})

    def test_plots_that_have_no_shore(self):
        row = islands.grid(2, 2)
        inland = [plot for plot in plots(row) if gaps(row, plot) == []]
        # Of the three times three plots the middle one: off the outer ditch of either two.
        self.assertEqual(inland, [("ash", "cole")])
        self.assertEqual(len([plot for plot in plots(islands.grid(7, 7)) if gaps(islands.grid(7, 7), plot) == []]), 36)

    def test_gaps_of_no_plot(self):
        for plot in NO_PLOTS:
            with self.subTest(plot=plot), self.assertRaises(NoPlot):
                gaps(ROW, plot)


class Retold(unittest.TestCase):
    def test_by_hand(self):
        self.assertEqual(retold(ROW, (), 2), ("ash", "bo"))
        self.assertEqual(retold(ROW, ("elm",), 2), ("ash", "bo", "elm"))
        self.assertEqual(retold(ROW, ("ash", "bo"), 2), ())
        self.assertEqual(retold(ROW, ("ash", "cole"), 2), ("bo", "cole"))
        self.assertEqual(retold([], (), 0), ())

    def test_all_plots_of_the_turned_row(self):
        for row in islands.rows():
            for by in range(len(row) + 1):
                told = [retold(row, plot, by) for plot in plots(row)]
                self.assertEqual(sorted(told), sorted(plots(turned(row, by))), (row, by))
                self.assertEqual(told[plots(row).index(at_gap(row, by))], ())

    def test_carried_on_by_the_rest(self):
        for row in islands.rows():
            for by in range(len(row) + 1):
                for plot in plots(row):
                    self.assertEqual(retold(turned(row, by), retold(row, plot, by), len(row) - by), plot)
            for plot in plots(row):
                self.assertEqual(retold(row, plot, 0), plot)
                self.assertEqual(retold(row, plot, len(row)), plot)

    def test_each_plot_keeps_its_shore(self):
        for row in islands.rows():
            for by in range(len(row) + 1):
                for gap in range(len(row)):
                    there = (gap - by) % len(row)
                    self.assertEqual(retold(row, at_gap(row, gap), by), at_gap(turned(row, by), there))

    def test_no_plot_ahead_of_no_place(self):
        for plot in NO_PLOTS:
            for by in (-1, 0, 3, 8, 9):
                with self.subTest(plot=plot, by=by), self.assertRaises(NoPlot):
                    retold(ROW, plot, by)
        for plot in plots(ROW):
            for by in (-1, -8, 9, 100):
                with self.subTest(plot=plot, by=by), self.assertRaises(NoPlace):
                    retold(ROW, plot, by)


class NewDitch(unittest.TestCase):
    def test_it_cuts_some_plots_and_leaves_the_others_whole(self):
        for row in list(islands.small_rows()) + [islands.dug_row(3, 9), islands.grid(6, 6)]:
            for at, to in itertools.combinations_with_replacement(range(len(row) + 1), 2):
                try:
                    more = put_in(row, "new", at, to)
                except Barred:
                    continue
                self.cut_or_whole(row, more)

    def cut_or_whole(self, row, more):
        parts = [[is_plot(more, plot), is_plot(more, tuple(sorted(plot + ("new",))))] for plot in plots(row)]
        crossed = [pair for pair in crossings(more) if "new" in pair]
        self.assertNotIn([False, False], parts, more)
        self.assertEqual(parts.count([True, True]), 1 + len(crossed), more)
        joined = [tuple(name for name in plot if name != "new") for plot in plots(more)]
        self.assertEqual(set(joined), set(plots(row)), more)


class NothingChanged(unittest.TestCase):
    def test_rows_handed_in_stay(self):
        for row in islands.rows():
            kept = list(row)
            for plot in plots(row):
                is_plot(row, plot)
                gaps(row, plot)
                retold(row, plot, len(row) // 2)
            self.assertEqual(row, kept)

    def test_changed_lists_change_nothing(self):
        for ask in (lambda: plots(ROW), lambda: gaps(ROW, ()), lambda: gaps(ROW, ("ash",)), lambda: plots([])):
            first = ask()
            told = list(first)
            first.reverse()
            first.append(("zed",))
            self.assertEqual(ask(), told)


if __name__ == "__main__":
    unittest.main()
