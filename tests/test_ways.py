"""What a digging, a filling and a turning do to ways, places, grounds and moots."""

import itertools
import unittest

from shoretold.errors import NoDitch, Tired
from shoretold.grounds import held
from shoretold.island import Island
from shoretold.plots import at_gap, is_plot, retold
from shoretold.walks import led
from tests import islands, slow
from tests.test_deeds import DeedTest, row_of


def restricted(plot, name):
    """A plot with a ditch, told without it."""
    return tuple(other for other in plot if other != name)


def digs(row):
    """All diggings of one ditch more that aren't barred, as (at, to)."""
    for at, to in itertools.combinations_with_replacement(range(len(row) + 1), 2):
        if not islands.barred(row[:at] + ["zed"] + row[at:to] + ["zed"] + row[to:]):
            yield at, to


def peopled(row, seed, walkers=4, steps=9):
    """An island of this row with walkers who have made some steps, a ground of each two, and a moot."""
    island = row_of(row)
    near = islands.beside(row)
    names = slow.WALKERS[:walkers]
    for number, walker in enumerate(names):
        gap = islands.drawn(seed + number, range(len(row) + 1), 1)[0]
        island.land(walker, gap)
        for name in islands.drawn_walk(seed * 7 + number, near, at_gap(row, gap), steps)[0]:
            island.walk(walker, name)
    for number, ground in enumerate(slow.GROUNDS[:4]):
        island.fence(ground, islands.drawn(seed + number, names, 1 + number % 3))
    island.call("yule", list(names) + list(names[:2]))
    return island


class DugByHand(DeedTest):
    def test_a_way_that_begins_in_a_cut_plot_begins_on_the_bank_told(self):
        for bank, begin in (("home", ()), ("off", ("zed",))):
            island = Island()
            island.land("ann", 0)
            island.dig("zed", 0, 0, bank)
            self.assertEqual((island.way("ann"), island.place("ann")), ((begin, []), begin))
            # A digging far from a plot leaves it on one bank, whatever bank is told.
            island.dig("bo", 1, 1, "off")
            self.assertEqual(island.way("ann"), ((), []) if bank == "home" else (("bo", "zed"), []))

    def test_a_plot_that_is_not_cut_lies_on_one_bank(self):
        for bank in ("home", "off"):
            island = row_of(["ash", "ash", "bo", "bo"])
            for gap, walker in enumerate(("ann", "bo", "cy", "dig")):
                island.land(walker, gap)
            # fen parts bo from ash, and cuts the stone's plot alone.
            island.dig("fen", 2, 4, bank)
            self.assertEqual(island.row(), ["ash", "ash", "fen", "bo", "bo", "fen"])
            stone = () if bank == "home" else ("fen",)
            self.assertEqual([island.place(walker) for walker in ("ann", "bo", "cy", "dig")],
                             [stone, ("ash",), stone, ("bo", "fen")])

    def test_steps_that_cross_the_new_ditch_and_steps_that_do_not(self):
        for bank, due in (("home", ((), ["fen", "bo", "bo", "fen", "ash", "ash"])),
                          ("off", (("fen",), ["bo", "bo", "fen", "ash", "ash"]))):
            island = row_of(["ash", "ash", "bo", "bo"])
            island.land("ann", 0)
            for ditch in ("bo", "bo", "ash", "ash"):
                island.walk("ann", ditch)
            island.dig("fen", 2, 4, bank)
            # Back from bo the way stays off fen as long as it can; it ends home of fen, where ash leads from.
            self.assertEqual(island.way("ann"), due)
            self.assertEqual(island.place("ann"), ())

    def test_a_way_that_stays_on_its_bank_through_cut_plots(self):
        for bank, begin in (("home", ()), ("off", ("zed",))):
            island = row_of(["ash", "bo", "bo", "ash"])
            island.land("ann", 0)
            for ditch in ("ash", "bo", "bo", "ash"):
                island.walk("ann", ditch)
            # zed crosses both, so each plot is cut.
            island.dig("zed", 0, 2, bank)
            self.assertEqual(island.row(), ["zed", "ash", "bo", "zed", "bo", "ash"])
            self.assertEqual(island.way("ann"), (begin, ["ash", "bo", "bo", "ash"]))
            self.assertEqual(island.place("ann"), begin)

    def test_grounds(self):
        island = row_of(["ash", "ash", "bo", "bo"])
        for gap, walker in enumerate(("ann", "bo", "cy", "dig")):
            island.land(walker, gap)
        for ground, walkers in (("lea", ["bo"]), ("moor", ["dig"]), ("off", ["bo", "ann"]), ("ann", ["bo", "dig"])):
            island.fence(ground, walkers)
        island.dig("fen", 2, 4, "home")
        self.assertEqual(island.ground("lea"), [("ash", "off"), ("bo", "home"), ("fen", "home")])
        self.assertEqual(island.ground("moor"), [("ash", "home"), ("bo", "off"), ("fen", "off")])
        # These two have the stone's plot, which is cut.
        self.assertEqual(island.ground("off"), [("bo", "home")])
        self.assertEqual(island.ground("ann"), [])

    def test_a_ground_of_one_plot_that_is_cut(self):
        for bank in ("home", "off"):
            island = Island()
            island.land("ann", 0)
            island.fence("lea", ["ann"])
            island.dig("zed", 0, 0, bank)
            self.assertEqual(island.ground("lea"), [])
            self.assertEqual(island.on_ground("lea"), ["ann"])


class DugAnywhere(DeedTest):
    def test_each_way_is_a_walk_again_and_leads_to_the_place(self):
        for number, row in enumerate(islands.sized_rows()[::3]):
            if len(set(row)) < 14:
                before = peopled(row, number, steps=12)
                for at, to in list(digs(row))[::1 + len(row) // 3]:
                    for bank in ("home", "off"):
                        island = before.twin()
                        island.dig("zed", at, to, bank)
                        for walker in island.walkers():
                            self.way_behind(before, island, walker, bank)

    def way_behind(self, before, island, walker, bank):
        row = island.row()
        begin, steps = island.way(walker)
        old_begin, old_steps = before.way(walker)
        self.assertEqual(restricted(begin, "zed"), old_begin)
        self.assertEqual([step for step in steps if step != "zed"], old_steps)
        both = [tuple(sorted(old_begin + ("zed",))), old_begin]
        if all(is_plot(row, plot) for plot in both):
            self.assertEqual(begin, both[bank == "home"])
        self.assertEqual(led(row, begin, steps), island.place(walker))
        # Each crossing of the new ditch stands right ahead of a step that can't be made from the other bank.
        for at, step in enumerate(steps):
            if step == "zed":
                here = led(row, begin, steps[:at])
                self.assertFalse(is_plot(row, tuple(sorted(set(here) ^ {steps[at + 1]}))), (row, begin, steps))

    def test_against_the_slow_island(self):
        for number, row in enumerate(islands.sized_rows()[::4]):
            if len(set(row)) < 14:
                island, model = peopled(row, number), slow.SlowDeeds()
                for deed in island.deeds():
                    model.do(deed)
                for at, to in list(digs(row))[::1 + len(row) // 4]:
                    for bank in ("home", "off"):
                        island.dig("zed", at, to, bank)
                        model.do(("dig", "zed", at, to, bank))
                        self.assertEqual(slow.asked(island), model.now().asked(), (row, at, to, bank))
                        island.undo()
                        model.undo()

    def test_grounds_have_the_plots_that_were_their_own(self):
        for number, row in enumerate(islands.sized_rows()[::3]):
            if len(set(row)) < 14:
                before = peopled(row, number, steps=5)
                for at, to in list(digs(row))[::1 + len(row) // 2]:
                    island = before.twin()
                    island.dig("zed", at, to, "off")
                    for ground in island.grounds():
                        own = held(row, before.ground(ground))
                        due = [plot for plot in islands.plots_by_spots(island.row()) if restricted(plot, "zed") in own]
                        self.assertEqual(held(island.row(), island.ground(ground)), due, (row, at, to, ground))


class LongWays(DeedTest):
    def tramper(self, many):
        """A walker who has gone back and forth from bo over the stone's plot to ash, so many steps."""
        island = row_of(["ash", "ash", "bo", "bo"])
        island.land("ann", 1)
        for time in range(many):
            island.walk("ann", ("ash", "bo", "bo", "ash")[time % 4])
        return island

    def test_dug_across(self):
        for many in (38, 39, 40):
            for bank in ("home", "off"):
                island = self.tramper(many)
                island.call("yule", ["ann"])
                island.dig("fen", 2, 4, bank)
                begin, steps = island.way("ann")
                # Each way from ash to bo and each way back crosses fen once.
                self.assertEqual(steps.count("fen"), many // 2)
                self.assertEqual(len(steps), many + many // 2)
                self.assertEqual(led(island.row(), begin, steps), island.place("ann"))
                place = island.place("ann")
                for ditch in island.row() + ["zed"]:
                    self.refused("Tired", island, ("walk", "ann", ditch))
                for plot in [place] + island.plots():
                    self.refused("Tired", island, ("go", "ann", plot))
                self.refused("NoPlot", island, ("go", "ann", ("zed",)))
                self.refused("NoWalker", island, ("walk", "zed", "ash"))
                # Filled in again, there is room for as many steps as before.
                island.fill("fen")
                self.assertEqual(len(island.way("ann")[1]), many)
                if many < 40:
                    island.go("ann", island.place("ann"))

    def test_more_and_more(self):
        island = self.tramper(40)
        for number, name in enumerate(("fen", "gull", "hay", "ivy")):
            # Each lies right within the one before, around bo.
            island.dig(name, 2 + number, 4 + number, "home")
            begin, steps = island.way("ann")
            self.assertEqual(len(steps), 60 + 20 * number)
            self.assertEqual(led(island.row(), begin, steps), island.place("ann"))
        for name in ("gull", "fen", "ivy", "hay"):
            island.fill(name)
        self.assertEqual(island.way("ann"), self.tramper(40).way("ann"))

    def test_from_forty_steps_on(self):
        island = self.tramper(36)
        island.dig("fen", 2, 4, "home")
        self.assertEqual(len(island.way("ann")[1]), 54)
        # Without the steps over ash and fen there are 18.
        island.fill("fen")
        island.fill("ash")
        self.assertEqual(len(island.way("ann")[1]), 18)
        for time in range(22):
            island.walk("ann", "bo")
        with self.assertRaises(Tired):
            island.walk("ann", "bo")

    def test_just_at_the_bound_behind_a_digging(self):
        # 26 steps become 39, 27 become 40, 28 become 42: one step more is free only to the first.
        for many, length in ((26, 39), (27, 40), (28, 42)):
            island = self.tramper(many)
            island.dig("fen", 2, 4, "home")
            self.assertEqual(len(island.way("ann")[1]), length)
            place = island.place("ann")
            ditch = [name for name in ("ash", "bo", "fen")
                     if is_plot(island.row(), tuple(sorted(set(place) ^ {name})))][0]
            self.done_or_refused(None if length < 40 else "Tired", island, ("walk", "ann", ditch))
            self.done_or_refused(None if length <= 40 else "Tired", island, ("go", "ann", place))


class Filled(DeedTest):
    def test_by_hand(self):
        island = row_of(["ash", "bo", "ash", "bo"])
        island.land("ann", 1)
        for ditch in ("bo", "ash", "ash", "bo", "ash"):
            island.walk("ann", ditch)
        island.land("cy", 2)
        island.fence("lea", ["cy"])
        island.fence("moor", ["cy", "ann"])
        island.call("yule", ["ann", "cy", "cy"])
        island.fill("ash")
        self.assertEqual(island.way("ann"), ((), ["bo", "bo"]))
        self.assertEqual(island.way("cy"), (("bo",), []))
        self.assertEqual((island.ground("lea"), island.ground("moor")), ([("bo", "off")], []))
        self.assertEqual((island.bidden("yule"), island.least("yule"), island.toll("yule")),
                         (["ann", "cy", "cy"], [("bo",)], 1))
        island.fill("bo")
        self.assertEqual(island.way("ann"), ((), []))
        self.assertEqual((island.ground("lea"), island.on_ground("lea")), ([], ["ann", "cy"]))

    def test_against_the_plots(self):
        for number, row in enumerate(islands.sized_rows()[::3]):
            before = peopled(row, number)
            for name in sorted(set(row)):
                island = before.twin()
                island.fill(name)
                self.assertEqual(island.row(), [end for end in row if end != name])
                for walker in before.walkers():
                    begin, steps = before.way(walker)
                    due = (restricted(begin, name), [step for step in steps if step != name])
                    self.assertEqual(island.way(walker), due)
                    self.assertEqual(island.place(walker), restricted(before.place(walker), name))
                    self.assertEqual(led(island.row(), *island.way(walker)), island.place(walker))
                for ground in before.grounds():
                    joined = {restricted(plot, name) for plot in held(row, before.ground(ground))}
                    self.assertEqual(set(held(island.row(), island.ground(ground))), joined, (row, name, ground))
                with self.assertRaises(NoDitch):
                    island.fill(name)

    def test_dug_and_filled_in_again_changes_nothing_but_the_deeds(self):
        for number, row in enumerate(islands.sized_rows()[::4]):
            if len(set(row)) < 14:
                island = peopled(row, number, steps=40)
                before = slow.asked(island)
                deeds = island.deeds()
                for at, to in list(digs(row))[::1 + len(row) // 3]:
                    for bank in ("home", "off"):
                        island.dig("zed", at, to, bank)
                        island.fill("zed")
                        deeds += [("dig", "zed", at, to, bank), ("fill", "zed")]
                        self.assertEqual(slow.asked(island), before, (row, at, to, bank))
                        self.assertEqual(island.deeds(), deeds)


class Turned(DeedTest):
    def test_by_hand(self):
        island = row_of(["ash", "bo", "ash", "bo"])
        island.land("ann", 1)
        island.walk("ann", "bo")
        island.fence("lea", ["ann"])
        island.call("yule", ["ann"])
        island.turn(1)
        self.assertEqual(island.row(), ["bo", "ash", "bo", "ash"])
        self.assertEqual((island.way("ann"), island.place("ann")), (((), ["bo"]), ("bo",)))
        self.assertEqual(island.ground("lea"), [("ash", "home"), ("bo", "off")])
        self.assertEqual(island.least("yule"), [("bo",)])
        island.turn(1)
        self.assertEqual((island.way("ann"), island.place("ann")), ((("bo",), ["bo"]), ()))
        self.assertEqual(island.ground("lea"), [("ash", "home"), ("bo", "home")])

    def test_all_is_told_from_the_stone_as_it_lies(self):
        for number, row in enumerate(islands.sized_rows()[::4]):
            before = peopled(row, number)
            for by in range(0, len(row) + 1, 3):
                island = before.twin()
                island.turn(by)
                self.stays(before, island, lambda plot: retold(row, plot, by))

    def stays(self, before, island, told):
        for walker in before.walkers():
            begin, steps = before.way(walker)
            self.assertEqual(island.way(walker), (told(begin), steps))
            self.assertEqual(island.place(walker), told(before.place(walker)))
        for ground in before.grounds():
            body = {told(plot) for plot in held(before.row(), before.ground(ground))}
            self.assertEqual(set(held(island.row(), island.ground(ground))), body)
            self.assertEqual(island.on_ground(ground), before.on_ground(ground))
        for moot in before.moots():
            self.assertEqual(island.bidden(moot), before.bidden(moot))
            self.assertEqual(set(island.least(moot)), {told(plot) for plot in before.least(moot)})
            self.assertEqual(island.toll(moot), before.toll(moot))

    def test_on_and_by_the_rest_changes_nothing(self):
        for number, row in enumerate(islands.sized_rows()[::3]):
            before = peopled(row, number)
            for by in sorted({0, 1, len(row) // 2, len(row)} & set(range(len(row) + 1))):
                island = before.twin()
                island.turn(by)
                island.turn(len(row) - by)
                self.assertEqual(slow.asked(island), slow.asked(before), (row, by))
                self.assertEqual(island.deeds(), before.deeds() + [("turn", by), ("turn", len(row) - by)])


class Moots(DeedTest):
    def test_bid_the_same_behind_all_deeds(self):
        for seed in range(6):
            island, model, drawer = Island(), slow.SlowDeeds(), slow.Drawer(seed, slow.BUSY_DEEDS)
            island.land("ann", 0)
            island.call("every", ["ann", "ann"])
            model.do(("land", "ann", 0))
            model.do(("call", "every", ("ann", "ann")))
            for time in range(80):
                deed = drawer.deed(model.now())
                if deed != ("close", "every") and model.do(deed) is None:
                    island.do(deed)
                    self.assertEqual(island.bidden("every"), ["ann", "ann"])
                    self.assertEqual((island.least("every"), island.toll("every")), ([island.place("ann")], 0))


if __name__ == "__main__":
    unittest.main()
