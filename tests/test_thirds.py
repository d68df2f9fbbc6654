"""Thirds: the lane of two plots, the one plot of three."""

import inspect
import itertools
import unittest

from shoretold import thirds
from shoretold.errors import NoPlot
from shoretold.plots import plots
from shoretold.thirds import lane, on_way, third
from tests import islands
from tests.islands import NO_PLOTS, ROW

GRID = islands.grid(2, 2)


def small_rows():
    return list(islands.small_rows(3)) + list(islands.small_rows())[::6] + [
        islands.dug_row(2, 5), islands.grid(2, 3, islands.drawn_order(3))]


def steps_of(row):
    """How far each two plots lie apart, by neighbours."""
    near = islands.beside(row)
    return {one: {plot: told[0] for plot, told in islands.counted(near, one).items()} for one in near}


def lane_by_steps(steps, one, other):
    """All plots over which the way is no longer, in order."""
    return [plot for plot in steps if steps[one][plot] + steps[plot][other] == steps[one][other]]


class Interface(unittest.TestCase):
    def test_arguments_bear_their_names(self):
        told = {"on_way": "row one other plot", "lane": "row one other", "third": "row one other last"}
        for name, arguments in told.items():
            with self.subTest(name=name):
                self.assertEqual(list(inspect.signature(getattr(thirds, name)).parameters), arguments.split())


class Lane(unittest.TestCase):
    def test_by_hand(self):
        self.assertEqual(lane([], (), ()), [()])
        self.assertEqual(lane(ROW, ("ash", "bo"), ("elm",)), [(), ("ash",), ("elm",), ("ash", "bo")])
        self.assertEqual(lane(ROW, (), ("ash", "cole")), [(), ("ash",), ("cole",), ("ash", "cole")])
        self.assertEqual(lane(ROW, ("ash",), ("cole",)), [(), ("ash",), ("cole",), ("ash", "cole")])
        self.assertEqual(lane(ROW, ("ash", "bo"), ("ash", "cole")), [("ash",), ("ash", "bo"), ("ash", "cole")])
        self.assertIs(on_way(ROW, ("ash", "bo"), ("elm",), ()), True)
        self.assertIs(on_way(ROW, ("ash", "bo"), ("elm",), ("cole",)), False)
        self.assertIs(on_way(ROW, ("ash", "bo"), ("ash", "cole"), ()), False)

    def test_all_plots_by_the_steps_between(self):
        for row in small_rows():
            steps = steps_of(row)
            for one, other in itertools.product(steps, repeat=2):
                self.lane_of_two(row, steps, one, other)
                for plot in steps:
                    due = steps[one][plot] + steps[plot][other] == steps[one][other]
                    self.assertIs(on_way(row, one, other, plot), due, (row, one, other, plot))

    def test_wide_rows(self):
        for row in islands.sized_rows():
            steps = steps_of(row)
            near = islands.beside(row)
            for one, other in [islands.farthest(near)] + list(zip(*[iter(islands.drawn(4, list(near), 12))] * 2)):
                due = self.lane_of_two(row, steps, one, other)
                for plot in list(near)[::3]:
                    self.assertIs(on_way(row, one, other, plot), plot in due, (row, one, other, plot))
                    self.assertIs(on_way(row, other, one, plot), plot in due, (row, one, other, plot))

    def lane_of_two(self, row, steps, one, other):
        due = lane_by_steps(steps, one, other)
        told = lane(row, one, other)
        self.assertEqual(told, due, (row, one, other))
        self.assertEqual(lane(row, other, one), due, (row, one, other))
        self.assertEqual((type(told), {type(plot) for plot in told}), (list, {tuple}))
        self.assertIn(one, told)
        self.assertIn(other, told)
        return due

    def test_all_that_shortest_walks_come_through(self):
        for row in small_rows()[::2]:
            near = islands.beside(row)
            for one, other in itertools.product(near, repeat=2):
                come = {one}
                for steps in islands.all_walks(near, one, other):
                    plot = one
                    for name in steps:
                        plot = near[plot][name]
                        come.add(plot)
                self.assertEqual(set(lane(row, one, other)), come, (row, one, other))

    def test_of_a_plot_and_itself(self):
        for row in islands.sized_rows():
            for plot in plots(row):
                self.assertEqual(lane(row, plot, plot), [plot])
                self.assertIs(on_way(row, plot, plot, plot), True)

    def test_the_whole_of_a_grid(self):
        row = islands.grid(7, 7)
        self.assertEqual(lane(row, (), tuple(sorted(islands.GOOD_NAMES))), plots(row))


class Third(unittest.TestCase):
    def test_by_hand(self):
        self.assertEqual(third([], (), (), ()), ())
        self.assertEqual(third(ROW, ("ash", "bo"), ("cole",), ("elm",)), ())
        self.assertEqual(third(ROW, ("ash", "bo"), ("ash", "cole"), ("elm",)), ("ash",))
        self.assertEqual(third(ROW, ("ash", "cole"), ("ash",), ("cole",)), ("ash", "cole"))
        self.assertEqual(third(GRID, ("ash", "bo"), ("cole", "dyke"), ("ash", "cole")), ("ash", "cole"))

    def test_any_three_of_small_rows(self):
        for row in small_rows():
            steps = steps_of(row)
            for three in itertools.combinations_with_replacement(steps, 3):
                self.third_of(row, steps, three)

    def test_drawn_three_of_wide_rows(self):
        for number, row in enumerate(islands.sized_rows()):
            steps = steps_of(row)
            for three in zip(*[iter(islands.drawn(number, list(steps), 45))] * 3):
                self.third_of(row, steps, three)

    def third_of(self, row, steps, three):
        lanes = [lane_by_steps(steps, *two) for two in itertools.combinations(three, 2)]
        due = [plot for plot in steps if all(plot in some for some in lanes)]
        self.assertEqual(len(due), 1, (row, three))
        for order in set(itertools.permutations(three)):
            told = third(row, *order)
            self.assertEqual([told], due, (row, order))
            self.assertIs(type(told), tuple)

    def test_two_or_all_are_one(self):
        for row in islands.sized_rows():
            there = plots(row)
            for one, other in zip(there, there[::-1]):
                for three in set(itertools.permutations((one, one, other))):
                    self.assertEqual(third(row, *three), one)
                self.assertEqual(third(row, one, one, one), one)

    def test_of_the_lanes_that_are_told(self):
        for number, row in enumerate(islands.sized_rows()):
            for three in zip(*[iter(islands.drawn(number + 50, plots(row), 9))] * 3):
                told = third(row, *three)
                for one, other in itertools.permutations(three, 2):
                    self.assertIn(told, lane(row, one, other))
                    self.assertIs(on_way(row, one, other, told), True)


class NoPlots(unittest.TestCase):
    def test_at_each_place(self):
        for plot in NO_PLOTS:
            for places in ((0,), (1,), (2,), (0, 1), (0, 2), (1, 2), (0, 1, 2)):
                for good in ((), ("ash",), ("ash", "cole")):
                    three = [plot if at in places else good for at in range(3)]
                    self.refused(ROW, three)

    def refused(self, row, three):
        for ask in (on_way, third):
            with self.subTest(ask=ask, row=row, three=three), self.assertRaises(NoPlot):
                ask(row, *three)
        if any(plot in NO_PLOTS for plot in three[:2]):
            with self.subTest(ask=lane, row=row, three=three), self.assertRaises(NoPlot):
                lane(row, *three[:2])

    def test_several_that_are_none(self):
        for three in itertools.permutations(NO_PLOTS[:3] + [("zed",), ()], 3):
            self.refused(ROW, list(three))

    def test_in_rows_of_none_and_many(self):
        for row in ([], ["ash", "ash"], islands.grid(7, 7)):
            for plot in (("zed",), ("bo", "ash"), ("ash", "ash"), ("",)):
                for three in ((plot, (), ()), ((), plot, ()), ((), (), plot)):
                    for ask in (on_way, third):
                        with self.subTest(ask=ask, row=row, three=three), self.assertRaises(NoPlot):
                            ask(row, *three)
                for two in ((plot, ()), ((), plot), (plot, plot)):
                    with self.subTest(row=row, two=two), self.assertRaises(NoPlot):
                        lane(row, *two)


class NothingChanged(unittest.TestCase):
    def test_rows_handed_in_stay(self):
        for row in islands.sized_rows():
            kept = list(row)
            for plot in plots(row)[::4]:
                lane(row, (), plot)
                on_way(row, (), plot, plot)
                third(row, (), plot, plots(row)[-1])
            self.assertEqual(row, kept)

    def test_changed_lists_change_nothing(self):
        for ask in (lambda: lane(GRID, (), ("ash", "bo", "cole", "dyke")), lambda: lane(GRID, (), ()),
                    lambda: lane([], (), ())):
            first = ask()
            told = list(first)
            first.reverse()
            first.append(("zed",))
            self.assertEqual(ask(), told)


if __name__ == "__main__":
    unittest.main()
