"""Grounds: the least one that holds some plots, its plots, gates, borders, and grounds that meet."""

import inspect
import itertools
import unittest

from shoretold import grounds as grounds_file
from shoretold.errors import BadGround, NoBody, NoPlot
from shoretold.grounds import border, gate, ground, held, inside, joined, meet
from shoretold.plots import plots
from shoretold.thirds import lane
from shoretold.walks import far, led, walk
from tests import islands
from tests.islands import NO_PLOTS, ROW

ALL_HOME = [("ash", "home"), ("bo", "home"), ("cole", "home"), ("elm", "home")]
# What tells no ground of ROW, in which bo lies within ash, cole crosses ash, and elm lies apart.
BAD_GROUNDS = [
    # A bank left out that all plots of the others share.
    [("bo", "off")], [("elm", "off")], [("ash", "off")], [("cole", "off")],
    [("ash", "off"), ("bo", "off"), ("elm", "home")], [("bo", "home"), ("cole", "off")],
    # Banks that no plot has together.
    [("ash", "home"), ("bo", "off"), ("cole", "home"), ("elm", "home")],
    [("ash", "off"), ("bo", "off"), ("cole", "off"), ("elm", "home")],
    [("ash", "off"), ("bo", "home"), ("cole", "home"), ("elm", "off")],
    # Pairs not rising, a pair twice, a ditch with both banks.
    [("bo", "home"), ("ash", "home")], [("elm", "home"), ("ash", "off")],
    [("elm", "home"), ("elm", "home")], [("bo", "home"), ("bo", "home")],
    [("elm", "home"), ("elm", "off")], [("bo", "home"), ("bo", "off")],
    # Strangers, and banks that are none.
    [("zed", "home")], [("zed", "off")], [("", "home")], [("elm", "home"), ("zed", "home")],
    [("bo", "home"), ("elm", "")], [("elm", "Home")], [("elm", "none")], [("bo", "over")], [("home", "elm")],
    [("Elm", "home")], [("elm ", "home")],
]


def rows():
    return list(islands.small_rows(3)) + list(islands.small_rows())[::5] + islands.sized_rows()


def shared_banks(row, crowd):
    """The banks that all plots of a crowd share, read off plot by plot."""
    found = []
    for name in sorted(set(row)):
        sides = {islands.side_of(plot, name) for plot in crowd}
        if len(sides) == 1:
            found.append((name, sides.pop()))
    return found


def filled_up(row, crowd):
    """A crowd with each plot on shortest walks between each two of it, and so on, in order."""
    there = islands.plots_by_spots(row)
    found = set(crowd)
    while True:
        more = {plot for one, other in itertools.combinations(sorted(found), 2) for plot in there
                if islands.parted(one, plot) + islands.parted(plot, other) == islands.parted(one, other)}
        if more <= found:
            return [plot for plot in there if plot in found]
        found |= more


def on_banks(row, kept):
    """All plots on the banks that are told, in order."""
    return [plot for plot in islands.plots_by_spots(row)
            if all(islands.side_of(plot, name) == side for name, side in kept)]


def some_grounds(row, seed, many=4):
    """The least grounds that hold some crowds: of one plot, of few, of any."""
    there = islands.plots_by_spots(row)
    found = [ground(row, islands.drawn(seed + number, there, 1 + number % 4)) for number in range(many)]
    return found + [ground(row, there)]


def good_grounds(row):
    """All good grounds of a small row, by all sets of its plots."""
    there = islands.plots_by_spots(row)
    told = []
    for many in range(1, len(there) + 1):
        for crowd in itertools.combinations(there, many):
            banks = shared_banks(row, crowd)
            if banks not in told:
                told.append(banks)
    return told


class Interface(unittest.TestCase):
    def test_arguments_bear_their_names(self):
        told = {"ground": "row crowd", "held": "row kept", "inside": "row kept plot", "gate": "row kept plot",
                "border": "row kept", "joined": "row kept other", "meet": "row grounds"}
        for name, arguments in told.items():
            with self.subTest(name=name):
                self.assertEqual(list(inspect.signature(getattr(grounds_file, name)).parameters), arguments.split())


class Ground(unittest.TestCase):
    def test_by_hand(self):
        self.assertEqual(ground([], [()]), [])
        self.assertEqual(ground(ROW, [()]), ALL_HOME)
        self.assertEqual(ground(ROW, [("ash", "bo"), ("ash", "cole")]), [("ash", "off"), ("elm", "home")])
        self.assertEqual(ground(ROW, [("ash", "bo"), ("cole",)]), [("elm", "home")])
        self.assertEqual(ground(ROW, [("ash", "bo"), ("elm",)]), [("cole", "home")])
        self.assertEqual(ground(ROW, [("cole",), ("elm",), ("ash", "bo")]), [])
        self.assertEqual(held(ROW, [("ash", "off"), ("elm", "home")]), [("ash",), ("ash", "bo"), ("ash", "cole")])
        self.assertEqual(held(ROW, []), plots(ROW))
        self.assertEqual(held([], []), [()])

    def test_the_banks_that_all_share(self):
        for number, row in enumerate(rows()):
            for crowd in islands.crowds(row, number)[1:]:
                told = ground(row, crowd)
                self.assertEqual(told, shared_banks(row, crowd), (row, crowd))
                self.assertEqual(told, sorted(told))
                self.assertEqual((type(told), {type(pair) for pair in told} | {tuple}), (list, {tuple}))

    def test_the_least_that_has_all_on_shortest_walks(self):
        for number, row in enumerate(rows()):
            for crowd in islands.crowds(row, number)[1:5 if len(row) < 20 else 3]:
                told = held(row, ground(row, crowd))
                self.assertEqual(told, filled_up(row, crowd), (row, crowd))
                self.assertEqual((type(told), {type(plot) for plot in told}), (list, {tuple}))

    def test_just_the_plots_on_all_its_banks(self):
        for number, row in enumerate(rows()):
            for kept in some_grounds(row, number):
                self.assertEqual(held(row, kept), on_banks(row, kept), (row, kept))
                self.assertEqual(ground(row, held(row, kept)), kept)

    def test_of_one_plot_and_of_a_lane(self):
        for row in rows():
            there = plots(row)
            for one, other in zip(there[::3], there[::-3]):
                self.assertEqual(held(row, ground(row, [one])), [one])
                self.assertEqual(held(row, ground(row, [one, other])), lane(row, one, other))

    def test_inside(self):
        for number, row in enumerate(rows()):
            for kept in some_grounds(row, number, 2):
                due = on_banks(row, kept)
                for plot in plots(row)[::2]:
                    self.assertIs(inside(row, kept, plot), plot in due, (row, kept, plot))


class GoodGrounds(unittest.TestCase):
    def test_just_those_that_are_told_of_some_plots(self):
        for row in list(islands.small_rows(2)) + [["ash", "bo", "ash", "cole", "bo", "cole"], ["ash"] * 2,
                                                  ["bo", "ash", "ash", "cole", "cole", "bo"]]:
            names = sorted(set(row))
            good = good_grounds(row)
            for sides in itertools.product((None, "home", "off"), repeat=len(names)):
                kept = [(name, side) for name, side in zip(names, sides) if side]
                self.good_or_refused(row, kept, kept in good)

    def good_or_refused(self, row, kept, good):
        if good:
            self.assertEqual(held(row, kept), on_banks(row, kept), (row, kept))
            return
        self.refused(row, kept)

    def refused(self, row, kept):
        handed = list(kept)
        for ask in (lambda: held(row, kept), lambda: inside(row, kept, ()), lambda: gate(row, kept, ()),
                    lambda: border(row, kept), lambda: joined(row, kept, ground(row, [()])),
                    lambda: joined(row, ground(row, [()]), kept), lambda: joined(row, kept, kept),
                    lambda: meet(row, [kept]), lambda: meet(row, [ground(row, [()]), kept]),
                    # What is no plot is asked behind.
                    lambda: inside(row, kept, ("zed",)), lambda: gate(row, kept, ("zed", "bo"))):
            with self.assertRaises(BadGround, msg=(row, kept)):
                ask()
        self.assertEqual(kept, handed)

    def test_by_hand(self):
        for kept in BAD_GROUNDS:
            with self.subTest(kept=kept):
                self.refused(ROW, kept)
        for kept in ([("zed", "home")], [("zed", "off")], [("", "")]):
            self.refused([], kept)

    def test_good_ones_spoilt(self):
        refused = 0
        for number, row in enumerate(islands.sized_rows()[::2]):
            for kept in some_grounds(row, number, 2):
                for spoilt in self.spoilt(row, kept):
                    some = on_banks(row, spoilt)
                    if not some or shared_banks(row, some) != spoilt:
                        refused += 1
                        with self.assertRaises(BadGround, msg=(row, spoilt)):
                            held(row, spoilt)
                    else:
                        self.assertEqual(held(row, spoilt), some)
        self.assertGreater(refused, 500)

    def spoilt(self, row, kept):
        for at, (name, side) in enumerate(kept):
            other = "off" if side == "home" else "home"
            yield kept[:at] + kept[at + 1:]
            yield kept[:at] + [(name, other)] + kept[at + 1:]
            yield kept[:at] + [(name, "shore")] + kept[at + 1:]
            yield kept[:at] + [("zed", side)] + kept[at + 1:]
            yield kept[:at] + [(name, side)] + kept[at:]
            yield sorted(kept + [(name, other)])
        yield kept[::-1]
        yield kept + [("zed", "home")]
        for name in sorted(set(row)):
            for side in ("home", "off"):
                yield sorted(kept + [(name, side)])

    def test_lists_refused_by_each_question(self):
        for row in islands.sized_rows()[::12]:
            self.refused(row, [("zed", "home")])
            if len(set(row)) > 1:
                self.refused(row, ground(row, [()])[::-1])


class NoPlots(unittest.TestCase):
    def test_crowds(self):
        good = [(), ("ash", "bo"), ("ash",)]
        for plot in NO_PLOTS:
            for at in range(len(good) + 1):
                crowd = good[:at] + [plot] + good[at:]
                kept = list(crowd)
                with self.subTest(crowd=crowd), self.assertRaises(NoPlot):
                    ground(ROW, crowd)
                self.assertEqual(crowd, kept)
            with self.subTest(plot=plot), self.assertRaises(NoPlot):
                ground(ROW, [plot])

    def test_no_body(self):
        for row in [[]] + islands.sized_rows()[::6]:
            with self.assertRaises(NoBody):
                ground(row, [])

    def test_plots_asked(self):
        for plot in NO_PLOTS:
            for kept in ([], ALL_HOME, [("elm", "home")]):
                for ask in (inside, gate):
                    with self.subTest(ask=ask, plot=plot), self.assertRaises(NoPlot):
                        ask(ROW, kept, plot)
        for ask in (inside, gate):
            with self.assertRaises(NoPlot):
                ask([], [], ("zed",))


class Gate(unittest.TestCase):
    def test_by_hand(self):
        off_ash = [("ash", "off"), ("elm", "home")]
        self.assertEqual(gate(ROW, off_ash, ()), ("ash",))
        self.assertEqual(gate(ROW, off_ash, ("cole",)), ("ash", "cole"))
        self.assertEqual(gate(ROW, off_ash, ("elm",)), ("ash",))
        self.assertEqual(gate(ROW, off_ash, ("ash", "bo")), ("ash", "bo"))
        self.assertEqual(gate(ROW, [], ("elm",)), ("elm",))
        self.assertEqual(gate([], [], ()), ())

    def test_nearest_of_all(self):
        for number, row in enumerate(rows()):
            for kept in some_grounds(row, number, 3):
                some = on_banks(row, kept)
                for plot in plots(row)[::3]:
                    told = gate(row, kept, plot)
                    self.assertIs(type(told), tuple)
                    self.assertIn(told, some, (row, kept, plot))
                    fewest = islands.parted(told, plot)
                    nearer = [other for other in some if islands.parted(other, plot) <= fewest]
                    self.assertEqual(nearer, [told], (row, kept, plot))
                    if plot in some:
                        self.assertEqual(told, plot)

    def test_walks_through_it_are_as_short(self):
        for number, row in enumerate(islands.sized_rows()[::4]):
            for kept in some_grounds(row, number, 2):
                for plot in plots(row)[::4]:
                    through = gate(row, kept, plot)
                    for goal in held(row, kept)[::3]:
                        steps = walk(row, plot, through) + walk(row, through, goal)
                        self.assertEqual(len(steps), far(row, plot, goal))
                        self.assertEqual(led(row, plot, steps), goal)


class Border(unittest.TestCase):
    def test_by_hand(self):
        self.assertEqual(border(ROW, [("ash", "off"), ("elm", "home")]), ["ash"])
        self.assertEqual(border(ROW, ALL_HOME), ["ash", "cole", "elm"])
        self.assertEqual(border(ROW, []), [])
        self.assertEqual(border(ROW, [("elm", "home")]), ["elm"])
        self.assertEqual(border([], []), [])

    def test_steps_out_of_it_from_all_its_plots(self):
        for number, row in enumerate(rows()):
            near = islands.beside(row)
            for kept in some_grounds(row, number):
                some = on_banks(row, kept)
                due = sorted({name for plot in some for name, over in near[plot].items() if over not in some})
                told = border(row, kept)
                self.assertEqual(told, due, (row, kept))
                self.assertIs(type(told), list)


class Joined(unittest.TestCase):
    def test_by_hand(self):
        self.assertEqual(joined(ROW, ALL_HOME, ALL_HOME), ALL_HOME)
        self.assertEqual(joined(ROW, ALL_HOME, [("ash", "off"), ("elm", "home")]), [("elm", "home")])
        self.assertEqual(joined(ROW, [], ALL_HOME), [])
        self.assertEqual(joined([], [], []), [])

    def test_the_least_that_holds_both(self):
        for number, row in enumerate(rows()):
            found = some_grounds(row, number)
            for kept, other in itertools.product(found[:3], found[2:]):
                told = joined(row, kept, other)
                self.assertEqual(told, shared_banks(row, on_banks(row, kept) + on_banks(row, other)), (kept, other))
                self.assertEqual(joined(row, other, kept), told)
                self.assertEqual((type(told), {type(pair) for pair in told} | {tuple}), (list, {tuple}))
                if len(row) < 14:
                    both = held(row, kept) + held(row, other)
                    self.assertEqual(held(row, told), filled_up(row, both), (row, kept, other))


class Meet(unittest.TestCase):
    def test_by_hand(self):
        off_ash, off_bo = [("ash", "off"), ("elm", "home")], ground(ROW, [("ash", "bo")])
        off_cole, off_elm = ground(ROW, [("cole",), ("ash", "cole")]), ground(ROW, [("elm",)])
        self.assertEqual(meet([], [[]]), ("plot", ()))
        self.assertEqual(meet(ROW, [off_ash]), ("plot", ("ash",)))
        self.assertEqual(meet(ROW, [off_ash, off_cole]), ("plot", ("ash", "cole")))
        self.assertEqual(meet(ROW, [[], off_ash, off_ash]), ("plot", ("ash",)))
        self.assertEqual(meet(ROW, [off_ash, off_bo, off_cole]), ("parted", 1, 2, "bo"))
        self.assertEqual(meet(ROW, [off_cole, off_bo]), ("parted", 0, 1, "bo"))
        self.assertEqual(meet(ROW, [off_elm, off_cole, off_ash, off_bo]), ("parted", 0, 1, "cole"))
        self.assertEqual(meet(ROW, [[], off_ash, off_elm, off_cole]), ("parted", 1, 2, "ash"))
        self.assertEqual(meet(ROW, [off_bo, off_ash, off_cole, off_elm]), ("parted", 0, 2, "bo"))

    def due(self, row, some):
        bodies = [on_banks(row, kept) for kept in some]
        for (at, one), (to, other) in itertools.combinations(enumerate(bodies), 2):
            if not set(one) & set(other):
                parting = [name for name in sorted(set(row))
                           if {islands.side_of(plot, name) for plot in one}
                           | {islands.side_of(plot, name) for plot in other} == {"home", "off"}
                           and len({islands.side_of(plot, name) for plot in one}) == 1
                           and len({islands.side_of(plot, name) for plot in other}) == 1]
                return ("parted", at, to, parting[0])
        return ("plot", [plot for plot in islands.plots_by_spots(row) if all(plot in body for body in bodies)][0])

    def test_against_the_plots_of_all(self):
        seen = {"plot": 0, "parted": 0}
        for number, row in enumerate(rows()):
            there = islands.plots_by_spots(row)
            for many in (1, 2, 3, 5, 8):
                some = [ground(row, islands.drawn(number * 9 + many + part, there, 1 + (number + part) % 5))
                        for part in range(many)]
                self.meets(row, some, seen)
                # A plot that all of them have.
                self.meets(row, [ground(row, held(row, kept) + there[-1:]) for kept in some], seen)
        self.assertGreater(min(seen.values()), 200)

    def meets(self, row, some, seen):
        handed = [list(kept) for kept in some]
        told = meet(row, some)
        self.assertEqual(told, self.due(row, some), (row, some))
        kinds = (str, tuple) if told[0] == "plot" else (str, int, int, str)
        self.assertEqual((type(told), tuple(type(part) for part in told)), (tuple, kinds))
        self.assertEqual(some, handed)
        seen[told[0]] += 1

    def test_sixty(self):
        row = islands.grid(7, 7)
        there = plots(row)
        many = [ground(row, [there[0], plot]) for plot in there[:60]]
        self.assertEqual(meet(row, many), ("plot", ()))
        self.assertEqual(meet(row, many[:59] + [ground(row, there[1:2])]), ("parted", 0, 59, there[1][0]))

    def test_refusals(self):
        for row in ([], ROW):
            with self.assertRaises(NoBody):
                meet(row, [])
        for kept in BAD_GROUNDS:
            for some in ([kept], [[], kept], [kept, ALL_HOME], [ground(ROW, [("elm",)]), ALL_HOME, kept]):
                with self.subTest(some=some), self.assertRaises(BadGround):
                    meet(ROW, some)


class NothingChanged(unittest.TestCase):
    def test_what_is_handed_in_stays(self):
        for number, row in enumerate(rows()):
            crowd = islands.crowds(row, number)[3]
            some = some_grounds(row, number, 2)
            kept, other = some[0], some[1]
            before = (list(row), list(crowd), list(kept), list(other))
            ground(row, crowd)
            held(row, kept)
            inside(row, kept, crowd[0])
            gate(row, kept, crowd[0])
            border(row, kept)
            joined(row, kept, other)
            meet(row, some)
            self.assertEqual((row, crowd, kept, other), before)

    def test_changed_lists_change_nothing(self):
        kept = [("elm", "home")]
        for ask in (lambda: ground(ROW, [()]), lambda: held(ROW, kept), lambda: border(ROW, kept),
                    lambda: joined(ROW, kept, kept), lambda: held(ROW, []), lambda: joined(ROW, ALL_HOME, [])):
            first = ask()
            told = list(first)
            first.reverse()
            first.append(("zed", "home"))
            self.assertEqual(ask(), told)
        self.assertEqual(kept, [("elm", "home")])


if __name__ == "__main__":
    unittest.main()
