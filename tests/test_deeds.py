"""The eleven deeds: what each does, and its refusals, alone and where several are due at once."""

import itertools
import unittest

from shoretold import errors
from shoretold.island import Island
from shoretold.shore import turned
from tests import islands, slow
from tests.islands import BAD_NAMES, NO_PLOTS, ROW

BAD_BANKS = ("", "Home", "OFF", "on", "home ", "both")


def row_of(row):
    """An island with just these ditches, dug so that no digging is barred on the way."""
    island = Island()
    for name in sorted(set(row)):
        known = [end for end in row if end in island.row() or end == name]
        at, to = [place for place, end in enumerate(known) if end == name]
        island.dig(name, at, to - 1, "home")
    assert island.row() == row
    return island


def full_island():
    """14 ditches, 8 walkers, 6 grounds and 4 moots."""
    island = row_of(islands.grid(7, 7))
    for number, walker in enumerate(slow.WALKERS[:8]):
        island.land(walker, 3 * number)
    for ground in slow.GROUNDS[:6]:
        island.fence(ground, ["ann", "bo"])
    for moot in slow.MOOTS[:4]:
        island.call(moot, ["ann", "ann"])
    return island


def first_due(pairs):
    """The name of the first refusal that is due, None where none is."""
    return next((name for name, due in pairs if due), None)


class DeedTest(unittest.TestCase):
    def refused(self, name, island, deed, **fields):
        """A deed is refused so, both ways to do it, and nothing is changed."""
        before = (slow.asked(island), island.deeds())
        twin = island.twin()
        word, *handed = deed
        # What is to be taken back and done again stays too: the twin knows nothing of this deed.
        for ask in (lambda: island.do(deed), lambda: getattr(island, word)(*handed)):
            with self.assertRaises(errors.ShoreError, msg=deed) as caught:
                ask()
            self.assertIs(type(caught.exception), getattr(errors, name), deed)
            self.assertIsInstance(caught.exception, ValueError)
            for field, value in fields.items():
                self.assertEqual(getattr(caught.exception, field), value, deed)
            self.assertEqual((slow.asked(island), island.deeds()), before)
        self.same_back_and_forth(island, twin)

    def same_back_and_forth(self, island, twin):
        """The same is to be taken back last, and all the same to be done again; both stay as they were."""
        again = []
        while True:
            try:
                again.append(twin.redo())
            except errors.NothingLeft:
                break
        for deed in again:
            self.assertEqual(island.redo(), deed)
        with self.assertRaises(errors.NothingLeft):
            island.redo()
        for deed in again[::-1]:
            self.assertEqual((island.undo(), twin.undo()), (deed, deed))
        if island.deeds():
            self.assertEqual(island.undo(), twin.undo())
            self.assertEqual(slow.asked(island), slow.asked(twin))
            self.assertEqual(island.redo(), twin.redo())
        else:
            with self.assertRaises(errors.NothingLeft):
                island.undo()

    def done_or_refused(self, name, island, deed, **fields):
        if name is None:
            self.assertIsNone(island.twin().do(deed), deed)
            word, *handed = deed
            other = island.twin()
            self.assertIsNone(getattr(other, word)(*handed), deed)
            self.assertEqual(other.deeds(), island.deeds() + [deed])
        else:
            self.refused(name, island, deed, **fields)


class Dig(DeedTest):
    def test_done(self):
        island = Island()
        island.dig("ash", 0, 0, "home")
        self.assertEqual(island.row(), ["ash", "ash"])
        island.dig("bo", 1, 2, "off")
        self.assertEqual(island.row(), ["ash", "bo", "ash", "bo"])
        island.dig("cole", 0, 4, "home")
        self.assertEqual(island.row(), ["cole", "ash", "bo", "ash", "bo", "cole"])
        island.dig("dyke", 6, 6, "home")
        island.dig("elm", 0, 0, "home")
        self.assertEqual(island.row(), ["elm", "elm", "cole", "ash", "bo", "ash", "bo", "cole", "dyke", "dyke"])
        self.assertEqual(island.deeds(), [
            ("dig", "ash", 0, 0, "home"), ("dig", "bo", 1, 2, "off"), ("dig", "cole", 0, 4, "home"),
            ("dig", "dyke", 6, 6, "home"), ("dig", "elm", 0, 0, "home")])

    def test_each_refusal_alone(self):
        island = row_of(ROW)
        for bank in BAD_BANKS:
            self.refused("BadBank", island, ("dig", "fen", 0, 0, bank))
        for name in BAD_NAMES:
            self.refused("BadName", island, ("dig", name, 0, 0, "off"))
        for name in set(ROW):
            self.refused("Taken", island, ("dig", name, 0, 0, "home"))
        self.refused("Full", row_of(islands.grid(7, 7)), ("dig", "zed", 0, 0, "home"))
        for at, to in ((-1, 0), (1, 0), (0, 9), (9, 9), (-3, 20), (8, 7), (-2, -1), (5, 4)):
            self.refused("NoPlace", island, ("dig", "fen", at, to, "home"))
        self.refused("NoPlace", Island(), ("dig", "fen", 0, 1, "home"))
        self.refused("Barred", island, ("dig", "fen", 4, 8, "home"), three=("ash", "cole", "fen"))
        self.refused("Barred", island, ("dig", "aa", 4, 8, "off"), three=("aa", "ash", "cole"))
        self.refused("Barred", row_of(islands.grid(3, 3)), ("dig", "zed", 3, 9, "off"), three=("ash", "dyke", "zed"))

    def test_several_at_once(self):
        barred = row_of(islands.grid(2, 2))
        full = row_of(islands.grid(7, 7))
        for island, bank, name, place in itertools.product(
                (barred, full), ("home", "off", "bank"), ("zed", "ash", "Ash"), ((0, 0), (5, 2), (2, 6), (-1, 99))):
            row = island.row()
            at, to = place
            bad_place = not 0 <= at <= to <= len(row)
            due = first_due([("BadBank", bank == "bank"), ("BadName", name == "Ash"), ("Taken", name == "ash"),
                             ("Full", island == full), ("NoPlace", bad_place), ("Barred", place == (2, 6))])
            fields = {"three": ("ash", "cole", "zed")} if due == "Barred" else {}
            self.done_or_refused(due, island, ("dig", name, at, to, bank), **fields)

    def test_behind_a_filling_one_more_is_taken(self):
        island = row_of(islands.grid(7, 7))
        island.fill("ash")
        island.dig("ash", 0, 3, "home")
        self.refused("Full", island, ("dig", "zed", 0, 0, "home"))


class Fill(DeedTest):
    def test_done(self):
        island = row_of(ROW)
        island.fill("ash")
        self.assertEqual(island.row(), ["bo", "bo", "cole", "cole", "elm", "elm"])
        for name in ("elm", "cole", "bo"):
            island.fill(name)
        self.assertEqual((island.row(), island.plots()), ([], [()]))

    def test_no_ditch(self):
        for island in (Island(), row_of(ROW), full_island()):
            for name in ("zed", "", "Ash", "ann", "z", "yule"):
                self.refused("NoDitch", island, ("fill", name))


class Land(DeedTest):
    def test_done(self):
        island = row_of(ROW)
        for gap, walker in enumerate(slow.WALKERS[:8]):
            island.land(walker, gap)
        self.assertEqual(island.walkers(), sorted(slow.WALKERS[:8]))
        due = [(), ("ash",), ("ash", "bo"), ("ash",), ("ash", "cole"), ("cole",), (), ("elm",)]
        self.assertEqual([island.place(walker) for walker in slow.WALKERS[:8]], due)
        self.assertEqual([island.way(walker) for walker in slow.WALKERS[:8]], [(plot, []) for plot in due])
        island.leave("ann")
        island.land("ann", 8)
        self.assertEqual(island.place("ann"), ())

    def test_refusals(self):
        some, full = row_of(ROW), full_island()
        some.land("ann", 2)
        for name in BAD_NAMES:
            self.refused("BadName", some, ("land", name, 0))
        for gap in (-1, 9, 100, -100):
            self.refused("NoPlace", some, ("land", "bo", gap))
        self.refused("NoPlace", Island(), ("land", "bo", 1))
        for island, name, gap in itertools.product((some, full), ("zed", "ann", "Ann"), (0, -1, 99)):
            due = first_due([("BadName", name == "Ann"), ("Taken", name == "ann"), ("Full", island == full),
                             ("NoPlace", gap != 0)])
            self.done_or_refused(due, island, ("land", name, gap))

    def test_behind_one_gone_one_more_is_taken(self):
        island = full_island()
        island.leave("bo")
        island.land("zed", 0)
        self.refused("Full", island, ("land", "bo", 0))


class Walk(DeedTest):
    def setUp(self):
        self.island = row_of(ROW)
        self.island.land("ann", 0)

    def tired(self, many):
        for time in range(many):
            self.island.walk("ann", "ash")
        return self.island

    def test_done(self):
        for ditch in ("ash", "bo", "bo", "cole", "ash"):
            self.island.walk("ann", ditch)
        self.assertEqual(self.island.way("ann"), ((), ["ash", "bo", "bo", "cole", "ash"]))
        self.assertEqual(self.island.place("ann"), ("cole",))

    def test_up_to_forty_steps(self):
        self.tired(39)
        self.done_or_refused(None, self.island, ("walk", "ann", "ash"))
        self.island.walk("ann", "bo")
        self.refused("Tired", self.island, ("walk", "ann", "bo"))

    def test_several_at_once(self):
        for many in (0, 2, 38, 40):
            self.setUp()
            island = self.tired(many)
            for walker, ditch in itertools.product(("ann", "zed", "ash", ""), ("ash", "bo", "elm", "zed", "", "ann")):
                due = first_due([("NoWalker", walker != "ann"), ("Tired", many == 40),
                                 ("NoDitch", ditch in ("zed", "", "ann")), ("NotBeside", ditch == "bo")])
                fields = {"at": 0} if due == "NotBeside" else {}
                self.done_or_refused(due, island, ("walk", walker, ditch), **fields)


class Go(DeedTest):
    def setUp(self):
        self.island = row_of(ROW)
        self.island.land("ann", 2)

    def test_done(self):
        self.island.go("ann", ("cole",))
        self.assertEqual(self.island.way("ann"), (("ash", "bo"), ["bo", "ash", "cole"]))
        self.island.go("ann", ("cole",))
        self.assertEqual(self.island.way("ann"), (("ash", "bo"), ["bo", "ash", "cole"]))
        self.island.go("ann", ("elm",))
        self.assertEqual(self.island.way("ann"), (("ash", "bo"), ["bo", "ash", "cole", "cole", "elm"]))
        self.assertEqual(self.island.deeds()[-3:], [("go", "ann", ("cole",)), ("go", "ann", ("cole",)),
                                                    ("go", "ann", ("elm",))])

    def test_by_the_first_shortest_walk(self):
        for row in islands.sized_rows()[::3]:
            there = islands.plots_by_spots(row)
            island = row_of(row)
            island.land("ann", 0)
            steps = []
            for plot in islands.drawn(len(row), there, 3):
                steps += islands.all_walks(islands.beside(row), island.place("ann"), plot)[0]
                if len(steps) <= 40:
                    island.go("ann", plot)
                    self.assertEqual(island.way("ann"), ((), steps))
                    self.assertEqual(island.place("ann"), plot)

    def test_no_plot(self):
        for plot in NO_PLOTS:
            self.refused("NoPlot", self.island, ("go", "ann", plot))
            self.refused("NoWalker", self.island, ("go", "zed", plot))

    def test_up_to_forty_steps(self):
        # From 36 to 40 steps made: the ways to these plots are of 0 to 3 steps.
        for many in range(36, 41):
            self.setUp()
            for time in range(many):
                self.island.walk("ann", "bo")
            here = self.island.place("ann")
            for walker, plot in itertools.product(("ann", "zed"), (("ash", "bo"), ("ash",), (), ("cole",), ("bo",))):
                due = first_due([("NoWalker", walker == "zed"), ("NoPlot", plot == ("bo",)),
                                 ("Tired", many + len(set(plot) ^ set(here)) > 40)])
                self.done_or_refused(due, self.island, ("go", walker, plot))

    def test_no_step_at_forty(self):
        for time in range(40):
            self.island.walk("ann", "bo")
        self.island.go("ann", ("ash", "bo"))
        self.assertEqual(self.island.deeds()[-1], ("go", "ann", ("ash", "bo")))
        self.assertEqual(len(self.island.way("ann")[1]), 40)


class Leave(DeedTest):
    def test_done(self):
        island = row_of(ROW)
        for walker in ("ann", "bo"):
            island.land(walker, 2)
        island.fence("lea", ["ann"])
        island.leave("ann")
        self.assertEqual(island.walkers(), ["bo"])
        self.assertEqual(island.on_ground("lea"), ["bo"])
        island.leave("bo")
        self.assertEqual((island.walkers(), island.on_ground("lea")), ([], []))

    def test_refusals(self):
        island = full_island()
        island.call("ann", ["bo", "cy", "cy"])
        self.refused("Bidden", island, ("leave", "ann"))
        self.refused("Bidden", island, ("leave", "cy"))
        self.refused("Bidden", island, ("leave", "bo"))
        for walker in ("zed", "", "Ann", "lea", "yule", "elm"):
            self.refused("NoWalker", island, ("leave", walker))
        island.close("ann")
        island.leave("cy")
        # The others still bid ann, and bidding others anew sets her free.
        self.refused("Bidden", island, ("leave", "ann"))
        for moot in island.moots():
            island.call(moot, ["bo"])
        island.leave("ann")


class FenceAndCall(DeedTest):
    WORDS = {"fence": ("lea", "unfence", "grounds", 6, slow.GROUNDS), "call": ("yule", "close", "moots", 4, slow.MOOTS)}

    def test_fenced(self):
        island = row_of(ROW)
        for walker, gap in (("ann", 2), ("bo", 4), ("cy", 0)):
            island.land(walker, gap)
        island.fence("lea", ["ann", "bo"])
        self.assertEqual(island.ground("lea"), [("ash", "off"), ("elm", "home")])
        self.assertEqual(island.deeds()[-1], ("fence", "lea", ("ann", "bo")))
        # It stays where the walkers go.
        island.go("ann", ("elm",))
        self.assertEqual(island.ground("lea"), [("ash", "off"), ("elm", "home")])
        island.fence("lea", ["ann"])
        self.assertEqual(island.ground("lea"), [("ash", "home"), ("bo", "home"), ("cole", "home"), ("elm", "off")])
        island.fence("lea", ["cy", "ann", "bo", "cy"])
        self.assertEqual(island.ground("lea"), [("bo", "home")])
        island.unfence("lea")
        self.assertEqual(island.grounds(), [])

    def test_called(self):
        island = row_of(ROW)
        for walker, gap in (("ann", 2), ("bo", 4), ("cy", 0)):
            island.land(walker, gap)
        island.call("yule", ["cy", "ann", "cy"])
        self.assertEqual(island.bidden("yule"), ["cy", "ann", "cy"])
        self.assertEqual((island.least("yule"), island.toll("yule")), ([()], 2))
        self.assertEqual(island.deeds()[-1], ("call", "yule", ("cy", "ann", "cy")))
        # Those bidden count where they are.
        island.go("cy", ("cole",))
        self.assertEqual((island.least("yule"), island.toll("yule")), ([("cole",)], 3))
        island.call("yule", ["bo"])
        self.assertEqual((island.bidden("yule"), island.least("yule")), (["bo"], [("ash", "cole")]))
        island.close("yule")
        self.assertEqual(island.moots(), [])

    def test_sixty(self):
        island = full_island()
        walkers = (island.walkers() * 8)[:60]
        island.call("yule", walkers)
        island.fence("lea", walkers)
        self.assertEqual(island.bidden("yule"), walkers)
        self.assertEqual(island.deeds()[-2:], [("call", "yule", tuple(walkers)), ("fence", "lea", tuple(walkers))])

    def test_several_at_once(self):
        some, full = row_of(ROW), full_island()
        some.land("ann", 2)
        some.land("bo", 1)
        for word, (known, less, names, most, all_names) in self.WORDS.items():
            some.do((word, known, ("bo",)))
            for island, name, walkers in itertools.product(
                    (some, full), (known, "zed", "Lea", ""),
                    ((), ("ann",), ("ann", "zed"), ("zed",), ("ann", "bo", "ann"), ("",), ("bo", "Ann", "zed"))):
                due = first_due([("BadName", name in ("Lea", "")), ("Full", island == full and name == "zed"),
                                 ("NoBody", walkers == ()), ("NoWalker", not set(walkers) <= {"ann", "bo"})])
                self.done_or_refused(due, island, (word, name, walkers))

    def test_bad_names(self):
        island = row_of(ROW)
        island.land("ann", 0)
        for word in self.WORDS:
            for name in BAD_NAMES:
                for walkers in ((), ("zed",), ("ann",)):
                    self.refused("BadName", island, (word, name, walkers))

    def test_at_the_bound(self):
        for word, (known, less, names, most, all_names) in self.WORDS.items():
            island = full_island()
            self.assertEqual(len(getattr(island, names)()), most)
            for name in all_names[:most]:
                island.do((word, name, ("cy",)))
            for walkers in ((), ("zed",), ("ann",)):
                self.refused("Full", island, (word, "zed", walkers))
            self.refused("NoBody", island, (word, known, ()))
            getattr(island, less)(known)
            island.do((word, "zed", ("ann",)))
            self.refused("Full", island, (word, known, ("ann",)))
            island.do((word, "zed", ("bo",)))

    def test_no_ground_and_no_moot(self):
        for island in (Island(), full_island()):
            for name in ("zed", "", "Lea", "elm", "cy"):
                self.refused("NoGround", island, ("unfence", name))
                self.refused("NoMoot", island, ("close", name))
        island = full_island()
        self.refused("NoGround", island, ("unfence", "yule"))
        self.refused("NoMoot", island, ("close", "moor"))
        island.unfence("lea")
        self.refused("NoGround", island, ("unfence", "lea"))
        island.close("lea")
        self.refused("NoMoot", island, ("close", "lea"))


class Turn(DeedTest):
    def test_done(self):
        for row in (ROW, islands.grid(3, 4), []):
            for by in range(len(row) + 1):
                island = row_of(row)
                island.turn(by)
                self.assertEqual(island.row(), turned(row, by))
                self.assertEqual(island.deeds()[-1], ("turn", by))

    def test_no_place(self):
        for island in (row_of(ROW), Island(), full_island()):
            for by in (-1, len(island.row()) + 1, 100, -100):
                self.refused("NoPlace", island, ("turn", by))


class NamesOfEachKind(DeedTest):
    def test_names_that_all_kinds_have_alike(self):
        island = Island()
        island.dig("ash", 0, 0, "home")
        island.land("ash", 1)
        island.fence("ash", ["ash"])
        island.call("ash", ["ash"])
        self.assertEqual((island.row(), island.walkers(), island.grounds(), island.moots()),
                         (["ash", "ash"], ["ash"], ["ash"], ["ash"]))
        for deed in (("dig", "ash", 0, 0, "home"), ("land", "ash", 0)):
            self.refused("Taken", island, deed)
        self.refused("Bidden", island, ("leave", "ash"))
        island.walk("ash", "ash")
        self.assertEqual((island.place("ash"), island.ground("ash"), island.least("ash")), ((), [("ash", "off")], [()]))
        island.fill("ash")
        self.assertEqual((island.walkers(), island.grounds(), island.moots()), (["ash"], ["ash"], ["ash"]))
        island.close("ash")
        island.leave("ash")
        self.assertEqual((island.row(), island.walkers(), island.grounds(), island.moots()), ([], [], ["ash"], []))
        self.refused("NoMoot", island, ("close", "ash"))
        self.refused("NoWalker", island, ("leave", "ash"))
        self.refused("NoDitch", island, ("fill", "ash"))
        island.unfence("ash")


class RefusedBehindTakingsBack(DeedTest):
    def test_what_is_to_be_done_again_stays(self):
        for seed in range(4):
            island, model, drawer = Island(), slow.SlowDeeds(), slow.Drawer(seed)
            for deed in slow.drawn_deeds(seed, 25):
                island.do(deed)
                model.do(deed)
            for time in range(1 + 2 * seed):
                island.undo()
                model.undo()
            for time in range(60):
                deed = drawer.deed(model.now())
                name = model.now().refusal(deed)
                if name is not None:
                    self.refused(name, island, deed)


if __name__ == "__main__":
    unittest.main()
