"""Moots: counts at the ditches, totals, the least plots, the toll, and papers."""

import inspect
import itertools
import unittest

from shoretold import moots
from shoretold.errors import NoPlot
from shoretold.moots import counts, holds, least, told_paper, toll, total
from shoretold.plots import bank
from shoretold.walks import far
from tests import islands
from tests.islands import NO_PLOTS, ROW

# bo lies within ash, cole crosses ash, elm lies apart: each bank of each ditch has some of these.
CROWD = [("ash", "bo"), ("cole",), ("ash", "bo"), ("elm",), ("ash",)]


def rows_with_crowds():
    for number, row in enumerate(list(islands.small_rows())[::3] + islands.sized_rows()):
        for crowd in islands.crowds(row, number):
            yield row, crowd


class Interface(unittest.TestCase):
    def test_arguments_bear_their_names(self):
        told = {"counts": "row crowd", "total": "row crowd plot", "toll": "row crowd", "least": "row crowd",
                "told_paper": "row crowd", "holds": "row crowd bound paper"}
        for name, arguments in told.items():
            with self.subTest(name=name):
                self.assertEqual(list(inspect.signature(getattr(moots, name)).parameters), arguments.split())


class Counts(unittest.TestCase):
    def test_by_hand(self):
        self.assertEqual(counts(ROW, CROWD), [("ash", 2, 3), ("bo", 3, 2), ("cole", 4, 1), ("elm", 4, 1)])
        self.assertEqual(told_paper(ROW, CROWD), [("ash", 2), ("bo", 2), ("cole", 1), ("elm", 1)])
        self.assertEqual(counts(ROW, []), [("ash", 0, 0), ("bo", 0, 0), ("cole", 0, 0), ("elm", 0, 0)])
        self.assertEqual(told_paper(ROW, []), [("ash", 0), ("bo", 0), ("cole", 0), ("elm", 0)])
        self.assertEqual(counts([], []), [])
        self.assertEqual(told_paper([], [(), (), ()]), [])

    def test_bank_by_bank(self):
        for row, crowd in rows_with_crowds():
            due = {name: {"home": 0, "off": 0} for name in sorted(set(row))}
            for plot in crowd:
                for name in due:
                    due[name][islands.side_of(plot, name)] += 1
            told = counts(row, crowd)
            self.assertEqual(told, [(name, both["home"], both["off"]) for name, both in due.items()], (row, crowd))
            paper = told_paper(row, crowd)
            self.assertEqual(paper, [(name, min(both.values())) for name, both in due.items()], (row, crowd))
            self.kinds_of(told, (str, int, int))
            self.kinds_of(paper, (str, int))

    def kinds_of(self, told, kinds):
        self.assertIs(type(told), list)
        for thing in told:
            self.assertIs(type(thing), tuple)
            self.assertEqual(tuple(type(part) for part in thing), kinds)

    def test_the_banks_that_plots_tell(self):
        for row in islands.sized_rows()[::5]:
            for crowd in islands.crowds(row, 3)[:5]:
                for name, home, off in counts(row, crowd):
                    banks = [bank(row, plot, name) for plot in crowd]
                    self.assertEqual((banks.count("home"), banks.count("off")), (home, off))


class Totals(unittest.TestCase):
    def test_by_hand(self):
        self.assertEqual([total(ROW, CROWD, plot) for plot in ((), ("ash",), ("cole",), ("elm",), ("ash", "bo"),
                                                               ("ash", "cole"))], [7, 6, 10, 10, 7, 9])
        self.assertEqual((least(ROW, CROWD), toll(ROW, CROWD)), ([("ash",)], 6))
        self.assertEqual(least(ROW, [("ash", "bo"), ("cole",)]), [(), ("ash",), ("cole",), ("ash", "bo"),
                                                                  ("ash", "cole")])
        self.assertEqual(toll(ROW, [("ash", "bo"), ("cole",)]), 3)
        self.assertEqual((total([], [(), ()], ()), least([], [(), ()]), toll([], [(), ()])), (0, [()], 0))

    def test_against_the_ditches_between(self):
        for row, crowd in rows_with_crowds():
            there = islands.plots_by_spots(row)
            due = {plot: sum(islands.parted(one, plot) for one in crowd) for plot in there}
            for plot in there if len(there) < 12 else there[::7]:
                told = total(row, crowd, plot)
                self.assertEqual(told, due[plot], (row, crowd, plot))
                self.assertIs(type(told), int)
            fewest = min(due.values())
            told = least(row, crowd)
            # The plots of the slow reckoning stand in order.
            self.assertEqual(told, [plot for plot in there if due[plot] == fewest], (row, crowd))
            self.assertEqual((type(told), {type(plot) for plot in told}), (list, {tuple}))
            self.assertEqual(toll(row, crowd), fewest, (row, crowd))
            self.assertIs(type(toll(row, crowd)), int)

    def test_against_the_steps_by_neighbours(self):
        for row in islands.sized_rows()[::4]:
            near = islands.beside(row)
            for crowd in islands.crowds(row, 8)[:5]:
                for plot in list(near)[::5]:
                    steps = {other: told[0] for other, told in islands.counted(near, plot).items()}
                    self.assertEqual(total(row, crowd, plot), sum(steps[one] for one in crowd), (row, crowd, plot))

    def test_one_more_makes_so_much_more(self):
        for row in islands.sized_rows()[::3]:
            crowd = islands.drawn(len(row), islands.plots_by_spots(row), 6)
            for plot in islands.plots_by_spots(row)[::4]:
                before = total(row, crowd, plot)
                for more in crowd[:2] + islands.plots_by_spots(row)[::6]:
                    for at in (0, 3, len(crowd)):
                        self.assertEqual(total(row, crowd[:at] + [more] + crowd[at:], plot),
                                         before + far(row, more, plot))

    def test_no_total_below_the_toll_which_is_the_sum_of_the_lesser_counts(self):
        for row, crowd in rows_with_crowds():
            due = toll(row, crowd)
            self.assertEqual(due, sum(number for name, number in told_paper(row, crowd)), (row, crowd))
            self.assertEqual(due, sum(min(home, off) for name, home, off in counts(row, crowd)), (row, crowd))
            for plot in least(row, crowd):
                self.assertEqual(total(row, crowd, plot), due)

    def test_the_crowd_of_none(self):
        for row in islands.sized_rows():
            there = islands.plots_by_spots(row)
            self.assertEqual(least(row, []), there)
            self.assertEqual(toll(row, []), 0)
            for plot in there[::5]:
                self.assertEqual(total(row, [], plot), 0)

    def test_the_order_of_the_crowd_is_nothing(self):
        for order in itertools.permutations(CROWD):
            crowd = list(order)
            self.assertEqual((counts(ROW, crowd), least(ROW, crowd)), (counts(ROW, CROWD), least(ROW, CROWD)))


class Holds(unittest.TestCase):
    def test_by_hand(self):
        due = [
            ([], 0, True), ([], 1, False), ([], -1, True), ([], -50, True),
            ([("ash", 2), ("bo", 2), ("cole", 1), ("elm", 1)], 6, True),
            ([("ash", 2), ("bo", 2), ("cole", 1), ("elm", 1)], 7, False),
            ([("elm", 1), ("cole", 1), ("bo", 2), ("ash", 2)], 6, True),
            ([("elm", 1), ("bo", 0)], 1, True), ([("elm", 1), ("bo", 0)], 2, False), ([("elm", 0)], 0, True),
            ([("ash", 3)], 3, False), ([("ash", 3)], 0, False), ([("ash", 3)], -5, False), ([("ash", -1)], -1, False),
            ([("ash", -1), ("bo", 2)], 1, False), ([("ash", 1), ("ash", 1)], 2, False),
            ([("ash", 0), ("ash", 0)], 0, False), ([("ash", 1), ("bo", 1), ("ash", 1)], 0, False),
            ([("zed", 0)], 0, False), ([("ash", 2), ("zed", 0)], 2, False), ([("", 0)], -1, False),
            ([("Ash", 1)], 0, False), ([("zed", 1), ("zed", 1)], 0, False), ([("zed", -1)], -2, False),
        ]
        for paper, bound, truth in due:
            with self.subTest(paper=paper, bound=bound):
                self.assertIs(holds(ROW, CROWD, bound, paper), truth)

    def test_what_is_told_holds_for_the_toll_and_not_for_one_more(self):
        for row, crowd in rows_with_crowds():
            bound = toll(row, crowd)
            paper = told_paper(row, crowd)
            for order in (paper, paper[::-1], paper[1::2] + paper[::2]):
                self.assertIs(holds(row, crowd, bound, order), True, (row, crowd))
                self.assertIs(holds(row, crowd, bound + 1, order), False, (row, crowd))
                self.assertIs(holds(row, crowd, bound - 1, order), True, (row, crowd))
                self.assertIs(holds(row, crowd, -3, order), True, (row, crowd))

    def test_any_numbers_of_any_ditches(self):
        seen = []
        for number, (row, crowd) in enumerate(rows_with_crowds()):
            lesser = {name: min([(name in plot) for plot in crowd].count(off) for off in (True, False))
                      for name in sorted(set(row))}
            numbers = islands.numbers_from(number)
            for time in range(3):
                names = islands.drawn(number + time, sorted(lesser) + ["zed"] * (time == 2), 1 + time) if row else []
                paper = [(name, next(numbers) % (lesser.get(name, 0) + 3) - (next(numbers) % 4 == 0)) for name in names]
                good = len(set(names)) == len(names) and all(
                    name in lesser and 0 <= some <= lesser[name] for name, some in paper)
                total_of = sum(some for name, some in paper)
                for bound in (total_of - 1, total_of, total_of + 1, -1, 0):
                    due = good and total_of >= bound
                    seen.append(due)
                    self.assertIs(holds(row, crowd, bound, paper), due, (row, crowd, bound, paper))
        self.assertGreater(min(seen.count(True), seen.count(False)), 300)

    def test_each_number_at_the_lesser_count_and_beyond(self):
        for row in islands.sized_rows()[::4]:
            crowd = islands.crowds(row, 5)[4]
            for name, lesser in told_paper(row, crowd):
                for number in range(-2, lesser + 3):
                    for paper in ([(name, number)], [pair for pair in told_paper(row, crowd) if pair[0] != name]
                                  + [(name, number)]):
                        self.assertIs(holds(row, crowd, -9, paper), 0 <= number <= lesser, (row, crowd, paper))

    def test_no_total_is_below_a_bound_for_which_a_paper_holds(self):
        for row in list(islands.small_rows())[::9]:
            crowd = islands.crowds(row, 2)[3]
            for numbers in itertools.product(range(3), repeat=len(set(row))):
                paper = list(zip(sorted(set(row)), numbers))
                for bound in range(0, 7):
                    if holds(row, crowd, bound, paper):
                        for plot in islands.plots_by_spots(row):
                            self.assertGreaterEqual(total(row, crowd, plot), bound)


class NoPlots(unittest.TestCase):
    def test_at_each_place_of_the_crowd(self):
        for plot in NO_PLOTS:
            for at in range(len(CROWD) + 1):
                crowd = CROWD[:at] + [plot] + CROWD[at:]
                self.refused(ROW, crowd, ())
            self.refused(ROW, [plot], ("ash",))
            self.refused(ROW, [plot, plot], plot)
            self.refused(ROW, [(), plot, ("zed",)], ())
            self.refused(ROW, CROWD * 11 + [plot], ())

    def refused(self, row, crowd, plot):
        kept = list(crowd)
        for ask in (counts, toll, least, told_paper):
            with self.subTest(ask=ask, crowd=crowd), self.assertRaises(NoPlot):
                ask(row, crowd)
        with self.subTest(crowd=crowd, plot=plot), self.assertRaises(NoPlot):
            total(row, crowd, plot)
        for paper in ([], [("ash", 1)], [("zed", 1)], [("ash", 0), ("ash", 0)], [("ash", -1)]):
            with self.subTest(crowd=crowd, paper=paper), self.assertRaises(NoPlot):
                holds(row, crowd, 3, paper)
        self.assertEqual(crowd, kept)

    def test_the_plot_asked(self):
        for plot in NO_PLOTS:
            for crowd in ([], [()], CROWD):
                with self.subTest(crowd=crowd, plot=plot), self.assertRaises(NoPlot):
                    total(ROW, crowd, plot)

    def test_in_rows_of_none_and_many(self):
        for row in ([], ["ash", "ash"], islands.grid(7, 7)):
            for plot in (("zed",), ("bo", "ash"), ("ash", "ash"), ("",)):
                self.refused(row, [plot], ())
                self.refused(row, [(), plot], ())
                with self.subTest(row=row, plot=plot), self.assertRaises(NoPlot):
                    total(row, [()], plot)


class NothingChanged(unittest.TestCase):
    def test_what_is_handed_in_stays(self):
        for row, crowd in rows_with_crowds():
            paper = told_paper(row, crowd)[::-1]
            kept = (list(row), list(crowd), list(paper))
            counts(row, crowd)
            total(row, crowd, ())
            least(row, crowd)
            toll(row, crowd)
            holds(row, crowd, 2, paper)
            holds(row, crowd, 2, paper + paper)
            self.assertEqual((row, crowd, paper), kept)

    def test_changed_lists_change_nothing(self):
        for crowd in ([], CROWD, [()]):
            for ask in (counts, least, told_paper):
                first = ask(ROW, crowd)
                told = list(first)
                first.reverse()
                first.append(("zed",))
                self.assertEqual(ask(ROW, crowd), told)
                self.assertIsNot(ask(ROW, crowd), crowd)


if __name__ == "__main__":
    unittest.main()
