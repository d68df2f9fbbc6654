"""Walks: what parts two plots, where steps lead, the shortest walks and their numbers."""

import inspect
import itertools
import math
import unittest

from shoretold import walks
from shoretold.errors import NoDitch, NoPlot, NotBeside, NoWalk
from shoretold.plots import plots
from shoretold.walks import between, far, led, number_of, walk, walk_of, walks_many
from tests import islands
from tests.islands import NO_PLOTS, ROW

GRID = islands.grid(2, 2)
# Off all four ditches of the grid of two by two.
CORNER = ("ash", "bo", "cole", "dyke")


def small_rows():
    rows = list(islands.small_rows(3)) + list(islands.small_rows())[::5]
    rows += [islands.dug_row(9, 6), islands.grid(3, 3, islands.drawn_order(1))]
    rows += [islands.grid(2, 3)[3:] + islands.grid(2, 3)[:3]]
    # Walks rise name by name, not as one text: a name may begin another one.
    return rows + [islands.grid(2, 3, ("ab", "a", "b", "aab", "ba")), islands.grid(2, 2, ("ba", "b", "bb", "a"))]


def some_pairs(row, many):
    """Some pairs of plots of a row, those farthest apart among them."""
    pairs = list(itertools.product(plots(row), repeat=2))
    two = islands.farthest(islands.beside(row))
    return [two, two[::-1]] + (pairs if len(pairs) <= many else islands.drawn(len(row), pairs, many))


def wide_rows():
    """The rows of 12 to 14 ditches."""
    return [row for row in islands.sized_rows() if len(row) >= 24]


class Interface(unittest.TestCase):
    def test_arguments_bear_their_names(self):
        told = {"between": "row one other", "far": "row one other", "led": "row plot steps",
                "walks_many": "row one other", "walk": "row one other", "walk_of": "row one other number",
                "number_of": "row plot steps"}
        for name, arguments in told.items():
            with self.subTest(name=name):
                self.assertEqual(list(inspect.signature(getattr(walks, name)).parameters), arguments.split())


class Between(unittest.TestCase):
    def test_by_hand(self):
        self.assertEqual(between([], (), ()), [])
        self.assertEqual(between(ROW, ("ash", "bo"), ("cole",)), ["ash", "bo", "cole"])
        self.assertEqual(between(ROW, ("ash", "bo"), ("ash", "cole")), ["bo", "cole"])
        self.assertEqual(between(ROW, (), ("elm",)), ["elm"])
        self.assertEqual(far(ROW, ("ash", "bo"), ("elm",)), 3)
        self.assertEqual(far(islands.grid(7, 7), (), tuple(sorted(islands.GOOD_NAMES))), 14)

    def test_by_the_banks_both_ways_about(self):
        for row in list(islands.small_rows()) + islands.sized_rows():
            for one, other in some_pairs(row, 100):
                parted = [name for name in sorted(set(row)) if (name in one) != (name in other)]
                for told in (between(row, one, other), between(row, other, one)):
                    self.assertEqual(told, parted, (row, one, other))
                    self.assertIs(type(told), list)
                self.assertEqual(far(row, one, other), len(parted))
                self.assertEqual(far(row, other, one), len(parted))

    def test_nothing_between_a_plot_and_itself(self):
        for row in list(islands.small_rows()) + islands.sized_rows():
            for plot in plots(row):
                self.assertEqual(between(row, plot, plot), [])
                self.assertEqual(far(row, plot, plot), 0)

    def test_as_many_as_the_fewest_steps_by_neighbours(self):
        for row in islands.sized_rows():
            near = islands.beside(row)
            for one in islands.drawn(3, list(near), 4):
                steps = {plot: told[0] for plot, told in islands.counted(near, one).items()}
                self.assertEqual({plot: far(row, one, plot) for plot in near}, steps, (row, one))


class NoPlots(unittest.TestCase):
    def test_on_each_side(self):
        for ask in (between, far, walks_many, walk):
            for plot in NO_PLOTS:
                for two in ((plot, ()), ((), plot), (plot, ("ash",)), (("ash", "bo"), plot), (plot, plot),
                            (plot, ("zed",)), (("zed",), plot)):
                    with self.subTest(ask=ask, two=two), self.assertRaises(NoPlot):
                        ask(ROW, *two)

    def test_in_rows_of_none_and_many(self):
        for ask in (between, far, walks_many, walk):
            for row in ([], ["ash", "ash"], islands.grid(7, 7)):
                for plot in (("zed",), ("bo", "ash"), ("ash", "ash"), ("",)):
                    for two in ((plot, ()), ((), plot), (plot, plot)):
                        with self.subTest(ask=ask, row=row, two=two), self.assertRaises(NoPlot):
                            ask(row, *two)

    def test_ahead_of_no_walk(self):
        for plot in NO_PLOTS:
            for number in (-1, 0, 1, 100):
                for two in ((plot, ()), ((), plot), (plot, plot), (plot, ("zed",))):
                    with self.subTest(two=two, number=number), self.assertRaises(NoPlot):
                        walk_of(ROW, *two, number)

    def test_ahead_of_bad_steps(self):
        for plot in NO_PLOTS:
            for steps in ([], ["ash"], ["ash", "ash"], ["zed"], ["bo", "zed"], ["zed", "bo"], ["elm", "bo"]):
                for ask in (led, number_of):
                    with self.subTest(ask=ask, plot=plot, steps=steps), self.assertRaises(NoPlot):
                        ask(ROW, plot, steps)


def walked(near, plot, steps):
    """("led", plot), or the refusal: ("strange", None), else ("not beside", number of the first such step)."""
    if not {name for sides in near.values() for name in sides}.issuperset(steps):
        return ("strange", None)
    for at, name in enumerate(steps):
        if name not in near[plot]:
            return ("not beside", at)
        plot = near[plot][name]
    return ("led", plot)


class Led(unittest.TestCase):
    def test_by_hand(self):
        self.assertEqual(led([], (), []), ())
        self.assertEqual(led(ROW, (), ["ash"]), ("ash",))
        self.assertEqual(led(ROW, ("elm",), ["elm", "ash", "bo", "bo", "cole"]), ("ash", "cole"))
        self.assertEqual(led(ROW, (), ["ash", "cole", "ash", "cole"]), ())

    def test_no_steps(self):
        for row in list(islands.small_rows()) + islands.sized_rows():
            for plot in plots(row):
                self.assertEqual(led(row, plot, []), plot)

    def test_there_and_back(self):
        for number, row in enumerate(islands.sized_rows()):
            near = islands.beside(row)
            for plot in islands.drawn(number, list(near), 3):
                for many in (1, 2, 7, 20, 45):
                    steps, goal = islands.drawn_walk(number + many, near, plot, many)
                    kept = list(steps)
                    self.assertEqual(led(row, plot, steps), goal, (row, plot, steps))
                    self.assertEqual(steps, kept)
                    self.assertEqual(led(row, goal, steps[::-1]), plot)
                    self.assertEqual(led(row, plot, steps + steps[::-1]), plot)
                    self.assertIs(type(led(row, plot, steps)), tuple)

    def test_a_bad_step_at_any_place(self):
        for row in (ROW, GRID, islands.dug_row(3, 9), islands.grid(3, 4)):
            near = islands.beside(row)
            for plot in near:
                steps, goal = islands.drawn_walk(len(plot), near, plot, 8)
                for at in range(len(steps) + 1):
                    for name in sorted(set(row)) + ["zed", "", "Ash", "ash bo"]:
                        self.led_or_refused(row, near, plot, steps[:at] + [name] + steps[at:])

    def test_two_bad_steps_at_any_places(self):
        seen = set()
        for row in (ROW, GRID, islands.dug_row(8, 7)):
            near = islands.beside(row)
            for plot in near:
                steps, goal = islands.drawn_walk(len(plot) + 5, near, plot, 4)
                for one, other in itertools.combinations_with_replacement(range(len(steps) + 1), 2):
                    for names in itertools.product(sorted(set(row)), ["bo", "zed"]):
                        for first, second in (names, names[::-1]):
                            bad = steps[:one] + [first] + steps[one:other] + [second] + steps[other:]
                            self.led_or_refused(row, near, plot, bad)
                            seen.add(walked(near, plot, bad)[0])
        self.assertEqual(seen, {"strange", "not beside", "led"})

    def test_both_kinds_by_hand(self):
        due = [
            (["zed"], NoDitch, None), (["bo"], NotBeside, 0), (["zed", "bo"], NoDitch, None),
            (["bo", "zed"], NoDitch, None), (["ash", "zed", "elm"], NoDitch, None),
            (["ash", "elm", "zed"], NoDitch, None), (["ash", "elm", "bo"], NotBeside, 1),
            (["ash", "bo", "cole"], NotBeside, 2), (["ash", "bo", "bo", "bo", "ash"], NotBeside, 4),
            (["ash"] * 30 + ["bo"], NotBeside, 30), (["ash"] * 30 + ["bo", "bo", "zed"], NoDitch, None),
            (["ash"] * 30 + ["zed", "bo"], NoDitch, None), (["bo", "bo", "bo"], NotBeside, 0),
        ]
        for steps, refusal, at in due:
            for ask in (led, number_of):
                with self.subTest(steps=steps, ask=ask):
                    with self.assertRaises(refusal) as caught:
                        ask(ROW, (), steps)
                    if refusal == NotBeside:
                        self.assertEqual(caught.exception.at, at)
                        self.assertIs(type(caught.exception.at), int)

    def led_or_refused(self, row, near, plot, steps):
        kept = list(steps)
        how, due = walked(near, plot, steps)
        if how == "led":
            self.assertEqual(led(row, plot, steps), due, (row, plot, steps))
        else:
            with self.assertRaises(NoDitch if how == "strange" else NotBeside, msg=(row, plot, steps)) as caught:
                led(row, plot, steps)
            if how == "not beside":
                self.assertEqual(caught.exception.at, due, (row, plot, steps))
        self.assertEqual(steps, kept)


class Walk(unittest.TestCase):
    def test_by_hand(self):
        self.assertEqual(walk([], (), ()), [])
        self.assertEqual(walk(ROW, ("elm",), ("ash", "bo")), ["elm", "ash", "bo"])
        self.assertEqual(walk(ROW, ("ash", "bo"), ("elm",)), ["bo", "ash", "elm"])
        self.assertEqual(walk(ROW, ("ash", "bo"), ("cole",)), ["bo", "ash", "cole"])
        self.assertEqual(walk(GRID, (), CORNER), ["ash", "bo", "cole", "dyke"])
        self.assertEqual(walk(GRID, CORNER, ()), ["bo", "ash", "dyke", "cole"])

    def test_from_a_plot_to_itself(self):
        for row in islands.sized_rows():
            for plot in plots(row):
                told = walk(row, plot, plot)
                self.assertEqual(told, [])
                self.assertIs(type(told), list)

    def test_the_first_of_all_shortest_walks(self):
        for row in small_rows():
            near = islands.beside(row)
            for one, other in itertools.product(near, repeat=2):
                self.assertEqual(walk(row, one, other), islands.all_walks(near, one, other)[0], (row, one, other))

    def test_as_short_as_can_be_and_leads_there(self):
        for row in islands.sized_rows():
            near = islands.beside(row)
            for one, other in some_pairs(row, 30):
                told = walk(row, one, other)
                self.assertEqual(len(told), far(row, one, other))
                self.assertEqual(walked(near, one, told), ("led", other), (row, one, other))
                self.assertEqual(led(row, one, told), other)
                self.no_lower_step_would_do(near, one, other, told)

    def no_lower_step_would_do(self, near, plot, goal, steps):
        for at, name in enumerate(steps):
            for lower, over in near[plot].items():
                if lower < name:
                    self.assertFalse((lower in plot) != (lower in goal), (plot, goal, steps, at))
            plot = near[plot][name]


class WalksMany(unittest.TestCase):
    def test_by_hand(self):
        self.assertEqual(walks_many([], (), ()), 1)
        self.assertEqual(walks_many(ROW, ("elm",), ("ash", "bo")), 1)
        self.assertEqual(walks_many(ROW, (), ("ash", "cole")), 2)
        self.assertEqual(walks_many(ROW, ("elm",), ("ash", "cole")), 2)
        self.assertEqual(walks_many(GRID, (), CORNER), 6)
        self.assertEqual(walks_many(GRID, ("ash", "bo"), ("cole", "dyke")), 6)
        self.assertEqual(walks_many(GRID, (), ("ash", "bo", "cole")), 3)

    def test_one_where_both_are_one(self):
        for row in islands.sized_rows():
            for plot in plots(row)[::3]:
                self.assertEqual(walks_many(row, plot, plot), 1)

    def test_counted_by_neighbours_both_ways_about(self):
        for row in list(islands.small_rows()) + islands.sized_rows():
            near = islands.beside(row)
            for one in islands.drawn(7, list(near), 2):
                many = {plot: told[1] for plot, told in islands.counted(near, one).items()}
                for plot in list(near)[::2]:
                    self.assertEqual(walks_many(row, one, plot), many[plot], (row, one, plot))
                    self.assertEqual(walks_many(row, plot, one), many[plot], (row, plot, one))

    def test_farthest_apart(self):
        self.assertEqual(walks_many(islands.grid(7, 7), (), tuple(sorted(islands.GOOD_NAMES))), math.comb(14, 7))
        self.assertEqual(walks_many(islands.grid(5, 9), (), tuple(sorted(islands.GOOD_NAMES))), math.comb(14, 5))
        self.assertEqual(walks_many(islands.grid(14, 0), (), tuple(sorted(islands.GOOD_NAMES))), 1)
        for row in wide_rows():
            near = islands.beside(row)
            one, other = islands.farthest(near)
            self.assertEqual(walks_many(row, one, other), islands.counted(near, one)[other][1], row)
            self.assertEqual(walks_many(row, other, one), islands.counted(near, one)[other][1], row)

    def test_counted_not_listed(self):
        names = [first + second for first in "abcd" for second in "abcdefgh"]
        row, goal = islands.grid(16, 16, names), tuple(sorted(names))
        self.assertEqual(walks_many(row, (), goal), math.comb(32, 16))
        for number in (0, 1, 123456789, math.comb(32, 16) - 1):
            steps = walk_of(row, (), goal, number)
            self.assertEqual(number_of(row, (), steps), number)
        self.assertEqual(walk_of(row, (), goal, math.comb(32, 16) - 1), names[16:] + names[:16])


class Numbers(unittest.TestCase):
    def test_by_hand(self):
        told = [["ash", "bo", "cole", "dyke"], ["ash", "cole", "bo", "dyke"], ["ash", "cole", "dyke", "bo"],
                ["cole", "ash", "bo", "dyke"], ["cole", "ash", "dyke", "bo"], ["cole", "dyke", "ash", "bo"]]
        self.assertEqual([walk_of(GRID, (), CORNER, number) for number in range(6)], told)
        self.assertEqual([number_of(GRID, (), steps) for steps in told], list(range(6)))
        self.assertEqual(walk_of([], (), (), 0), [])
        self.assertEqual(number_of([], (), []), 0)

    def test_all_numbers_in_order(self):
        for row in small_rows():
            near = islands.beside(row)
            for one, other in itertools.product(near, repeat=2):
                listed = islands.all_walks(near, one, other)
                self.assertEqual(walks_many(row, one, other), len(listed), (row, one, other))
                for number, steps in enumerate(listed):
                    self.assertEqual(walk_of(row, one, other, number), steps, (row, one, other))
                    self.assertEqual(number_of(row, one, steps), number, (row, one, steps))

    def test_all_numbers_of_a_wide_row(self):
        for row in (islands.dug_row(214, 14), islands.dug_row(5, 14, islands.grid(4, 5, islands.GOOD_NAMES[::-1]))):
            near = islands.beside(row)
            one, other = islands.farthest(near)
            listed = islands.all_walks(near, one, other)
            for number in range(0, len(listed), 1 + len(listed) // 200):
                self.assertEqual(walk_of(row, one, other, number), listed[number], (row, number))
                self.assertEqual(number_of(row, one, listed[number]), number, (row, number))

    def test_drawn_numbers_back_and_forth(self):
        for row in wide_rows():
            near = islands.beside(row)
            for one, other in some_pairs(row, 4):
                many = walks_many(row, one, other)
                numbers = islands.drawn(many, range(many), 4) + [0, many - 1]
                told = [walk_of(row, one, other, number) for number in numbers]
                self.assertEqual([number_of(row, one, steps) for steps in told], numbers, (row, one, other))
                self.assertEqual([steps for number, steps in sorted(zip(numbers, told))], sorted(told))
                for steps in told:
                    self.assertIs(type(steps), list)
                    self.assertEqual(walked(near, one, steps), ("led", other))
                    self.assertEqual(len(steps), far(row, one, other))
                self.assertEqual(walk_of(row, one, other, 0), walk(row, one, other))

    def test_numbers_below_and_beyond(self):
        for row in small_rows()[::3] + wide_rows()[:6]:
            for one, other in some_pairs(row, 12):
                many = walks_many(row, one, other)
                for number in (-1, -2, -many, -many - 1, many, many + 1, 2 * many, 10 ** 9, -10 ** 9):
                    with self.assertRaises(NoWalk, msg=(row, one, other, number)):
                        walk_of(row, one, other, number)

    def test_walks_that_are_no_shortest_ones(self):
        refused = 0
        for number, row in enumerate(small_rows()[::4] + wide_rows()[:6]):
            near = islands.beside(row)
            for plot in list(near)[::3]:
                for name, over in near[plot].items():
                    steps, goal = islands.drawn_walk(number, near, plot, 3)
                    there, far_on = islands.drawn_walk(number, near, over, 3)
                    for longer in ([name] * 2, [name] * 3, [name] * 40, [name] * 2 + steps,
                                   [name] + there + there[::-1] + [name]):
                        with self.assertRaises(NoWalk, msg=(row, plot, longer)):
                            number_of(row, plot, longer)
                        refused += 1
        self.assertGreater(refused, 200)

    def test_round_a_crossing_and_on(self):
        for steps in (["ash", "cole", "ash"], ["ash", "cole", "ash", "cole"], ["cole", "ash", "cole", "ash"],
                      ["elm", "elm", "ash"], ["ash", "ash", "elm"]):
            with self.subTest(steps=steps), self.assertRaises(NoWalk):
                number_of(ROW, (), steps)

    def test_bad_steps_ahead_of_no_walk(self):
        due = [
            (["ash", "ash", "zed"], NoDitch, None), (["zed", "ash", "ash"], NoDitch, None),
            (["ash", "ash", "bo"], NotBeside, 2), (["bo", "ash", "ash"], NotBeside, 0),
            (["ash", "ash", "bo", "zed"], NoDitch, None), (["ash", "ash", "zed", "bo"], NoDitch, None),
        ]
        for steps, refusal, at in due:
            with self.subTest(steps=steps):
                with self.assertRaises(refusal) as caught:
                    number_of(ROW, (), steps)
                if refusal == NotBeside:
                    self.assertEqual(caught.exception.at, at)


class NothingChanged(unittest.TestCase):
    def test_what_is_handed_in_stays(self):
        for row in islands.sized_rows():
            kept = list(row)
            for one, other in some_pairs(row, 3):
                steps = walk(row, one, other)
                told = list(steps)
                led(row, one, steps)
                number_of(row, one, steps)
                walks_many(row, one, other)
                walk_of(row, one, other, walks_many(row, one, other) - 1)
                between(row, one, other)
                self.assertEqual(steps, told)
            self.assertEqual(row, kept)

    def test_steps_stay_where_they_are_refused(self):
        for steps in (["ash", "ash"], ["ash", "zed"], ["ash", "elm"], ["zed"]):
            for ask in (led, number_of):
                for plot in ((), ("bo",)):
                    kept = list(steps)
                    try:
                        ask(ROW, plot, steps)
                    except (NoDitch, NotBeside, NoWalk, NoPlot):
                        pass
                    self.assertEqual(steps, kept)

    def test_changed_lists_change_nothing(self):
        for ask in (lambda: between(GRID, (), CORNER), lambda: walk(GRID, (), CORNER), lambda: walk(GRID, (), ()),
                    lambda: walk_of(GRID, (), CORNER, 4), lambda: between(GRID, CORNER, CORNER)):
            first = ask()
            told = list(first)
            first.reverse()
            first.append("zed")
            self.assertEqual(ask(), told)


if __name__ == "__main__":
    unittest.main()
