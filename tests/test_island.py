"""The island: its questions, taking back and doing again, twins, and lists that are handed in and told."""

import inspect
import itertools
import unittest

from shoretold import errors
from shoretold.errors import NoBody, NoGround, NoMoot, NothingLeft, NoWalker
from shoretold.grounds import gate, ground, inside, meet
from shoretold.island import Island
from shoretold.moots import least, toll
from shoretold.plots import plots
from shoretold.thirds import third
from shoretold.walks import between, led
from tests import islands, slow
from tests.islands import ROW
from tests.test_deeds import row_of

STRANGERS = ("zed", "", "Ann", "cole ", "ninesigns")
ARGUMENTS = {
    "dig": "name at to bank", "fill": "name", "land": "walker gap", "walk": "walker ditch", "go": "walker plot",
    "leave": "walker", "fence": "ground walkers", "unfence": "ground", "call": "moot walkers", "close": "moot",
    "turn": "by", "do": "deed", "undo": "", "redo": "", "twin": "", "deeds": "", "row": "", "plots": "", "walkers": "",
    "grounds": "", "moots": "", "place": "walker", "way": "walker", "ground": "name", "bidden": "name",
    "least": "moot", "toll": "moot", "on_ground": "ground", "gate": "ground walker", "meeting": "names",
    "apart": "one other", "third": "one other last",
}


def drawn_island(seed, many=60, words=slow.BUSY_DEEDS):
    island = Island()
    for deed in slow.drawn_deeds(seed, many, words):
        island.do(deed)
    return island


def small_island():
    """Four walkers, three grounds and a moot on the ditches of ROW."""
    island = row_of(ROW)
    for walker, gap in (("ann", 2), ("bo", 4), ("cy", 0), ("dig", 7)):
        island.land(walker, gap)
    island.walk("cy", "cole")
    island.fence("lea", ["ann", "bo"])
    island.fence("moor", ["dig"])
    island.fence("off", ["cy", "bo"])
    island.call("yule", ["dig", "ann", "ann"])
    return island


class Interface(unittest.TestCase):
    def test_arguments_bear_their_names(self):
        self.assertEqual(str(inspect.signature(Island)), "()")
        for name, arguments in ARGUMENTS.items():
            with self.subTest(name=name):
                self.assertEqual(list(inspect.signature(getattr(Island(), name)).parameters), arguments.split())

    def test_arguments_by_their_names(self):
        island = Island()
        island.dig(name="ash", at=0, to=0, bank="home")
        island.land(walker="ann", gap=0)
        island.walk(walker="ann", ditch="ash")
        island.go(walker="ann", plot=())
        island.fence(ground="lea", walkers=["ann"])
        island.call(moot="yule", walkers=["ann"])
        self.assertEqual(island.gate(ground="lea", walker="ann"), ())
        self.assertEqual((island.least(moot="yule"), island.toll(moot="yule")), ([()], 0))
        island.close(moot="yule")
        island.unfence(ground="lea")
        island.leave(walker="ann")
        island.turn(by=1)
        island.fill(name="ash")
        island.do(deed=("turn", 0))
        self.assertEqual(len(island.deeds()), 12)

    def test_nothing_at_first(self):
        island = Island()
        self.assertEqual((island.row(), island.plots(), island.walkers(), island.grounds(), island.moots()),
                         ([], [()], [], [], []))
        self.assertEqual(island.deeds(), [])


class Questions(unittest.TestCase):
    def test_by_hand(self):
        island = small_island()
        self.assertEqual(island.row(), ROW)
        self.assertEqual((island.walkers(), island.grounds(), island.moots()),
                         (["ann", "bo", "cy", "dig"], ["lea", "moor", "off"], ["yule"]))
        self.assertEqual(island.place("cy"), ("cole",))
        self.assertEqual(island.way("cy"), ((), ["cole"]))
        self.assertEqual(island.ground("lea"), [("ash", "off"), ("elm", "home")])
        self.assertEqual(island.bidden("yule"), ["dig", "ann", "ann"])
        self.assertEqual((island.least("yule"), island.toll("yule")), ([("ash", "bo")], 3))
        self.assertEqual(island.on_ground("lea"), ["ann", "bo"])
        self.assertEqual(island.on_ground("off"), ["bo", "cy"])
        self.assertEqual(island.gate("lea", "cy"), ("ash", "cole"))
        self.assertEqual(island.gate("lea", "dig"), ("ash",))
        self.assertEqual(island.meeting(["lea"]), ("plot", ("ash",)))
        self.assertEqual(island.meeting(["off", "lea"]), ("plot", ("ash", "cole")))
        self.assertEqual(island.meeting(["off", "lea", "moor", "lea"]), ("parted", "off", "moor", "cole"))
        self.assertEqual(island.meeting(["lea", "lea", "moor"]), ("parted", "lea", "moor", "ash"))
        self.assertEqual(island.meeting(["moor", "lea"]), ("parted", "moor", "lea", "ash"))
        self.assertEqual(island.apart("ann", "cy"), ["ash", "bo", "cole"])
        self.assertEqual(island.apart("ann", "ann"), [])
        self.assertEqual(island.third("ann", "bo", "cy"), ("ash", "cole"))
        self.assertEqual(island.third("ann", "dig", "cy"), ())

    def test_against_the_other_modules(self):
        parted = 0
        for seed in range(24):
            island = drawn_island(seed, 40 + 2 * seed)
            row = island.row()
            self.assertEqual(island.plots(), plots(row))
            places = {walker: island.place(walker) for walker in island.walkers()}
            self.of_walkers(island, row, places)
            kept = {name: island.ground(name) for name in island.grounds()}
            for name in kept:
                self.assertEqual(island.on_ground(name),
                                 [walker for walker in places if inside(row, kept[name], places[walker])])
                for walker in places:
                    self.assertEqual(island.gate(name, walker), gate(row, kept[name], places[walker]))
            for many in (1, 2, 3, 5):
                names = islands.drawn(seed + many, sorted(kept), many) if kept else []
                if names:
                    due = meet(row, [kept[name] for name in names])
                    if due[0] == "parted":
                        parted += 1
                        due = ("parted", names[due[1]], names[due[2]], due[3])
                    self.assertEqual(island.meeting(names), due)
            for moot in island.moots():
                crowd = [places[walker] for walker in island.bidden(moot)]
                self.assertEqual((island.least(moot), island.toll(moot)), (least(row, crowd), toll(row, crowd)))
        self.assertGreater(parted, 3)

    def of_walkers(self, island, row, places):
        for walker, place in places.items():
            self.assertEqual(led(row, *island.way(walker)), place)
        for one, other in itertools.product(places, repeat=2):
            self.assertEqual(island.apart(one, other), between(row, places[one], places[other]))
        for three in list(itertools.product(places, repeat=3))[::7]:
            self.assertEqual(island.third(*three), third(row, *[places[walker] for walker in three]))

    def test_a_ground_fenced_is_the_least_that_holds_the_places(self):
        for seed in range(6):
            island = drawn_island(seed, 40)
            for many in (1, 2, 3):
                names = islands.drawn(seed + many, island.walkers(), many) if island.walkers() else []
                if names:
                    other = island.twin()
                    if len(other.grounds()) == 6:
                        other.unfence(other.grounds()[0])
                    other.fence("q", names)
                    places = [other.place(walker) for walker in names]
                    self.assertEqual(other.ground("q"), ground(other.row(), places))

    def test_kinds(self):
        island = small_island()
        for told in (island.row(), island.plots(), island.walkers(), island.grounds(), island.moots(),
                     island.ground("lea"), island.bidden("yule"), island.least("yule"), island.on_ground("lea"),
                     island.apart("ann", "cy"), island.deeds(), island.way("cy")[1]):
            self.assertIs(type(told), list)
        for told in (island.place("ann"), island.way("ann"), island.way("ann")[0], island.gate("lea", "cy"),
                     island.meeting(["lea"]), island.meeting(["lea", "moor"]), island.third("ann", "bo", "cy"),
                     island.ground("lea")[0], island.plots()[1], island.deeds()[0], island.deeds()[-1][2]):
            self.assertIs(type(told), tuple)
        self.assertIs(type(island.toll("yule")), int)
        self.assertIs(type(island.twin()), Island)

    def test_names_rise(self):
        island = Island()
        for name in ("hay", "b", "ab", "a", "zz"):
            island.land(name, 0)
            island.fence(name, [name])
        for name in ("hay", "b", "ab", "zz"):
            island.call(name, [name])
        due = ["a", "ab", "b", "hay", "zz"]
        self.assertEqual((island.walkers(), island.grounds(), island.moots()), (due, due, due[1:]))
        self.assertEqual(island.on_ground("zz"), due)


class Strangers(unittest.TestCase):
    def refused(self, error, ask):
        with self.assertRaises(errors.ShoreError) as caught:
            ask()
        self.assertIs(type(caught.exception), error)

    def test_in_each_place(self):
        for island in (small_island(), Island()):
            for name in STRANGERS:
                with self.subTest(name=name):
                    for ask in (island.place, island.way):
                        self.refused(NoWalker, lambda: ask(name))
                    for ask in (island.ground, island.on_ground):
                        self.refused(NoGround, lambda: ask(name))
                    for ask in (island.bidden, island.least, island.toll):
                        self.refused(NoMoot, lambda: ask(name))
                    self.refused(NoGround, lambda: island.meeting([name]))
                    self.refused(NoGround, lambda: island.gate(name, "zed"))

    def test_names_of_another_kind(self):
        island = small_island()
        self.refused(NoWalker, lambda: island.place("lea"))
        self.refused(NoGround, lambda: island.ground("yule"))
        self.refused(NoMoot, lambda: island.least("ann"))
        self.refused(NoGround, lambda: island.on_ground("ash"))

    def test_beside_good_ones(self):
        island = small_island()
        for name in STRANGERS:
            with self.subTest(name=name):
                self.refused(NoGround, lambda: island.gate(name, "ann"))
                self.refused(NoWalker, lambda: island.gate("lea", name))
                for two in (("ann", name), (name, "ann"), (name, name)):
                    self.refused(NoWalker, lambda: island.apart(*two))
                for three in itertools.product(("ann", name), repeat=3):
                    if name in three:
                        self.refused(NoWalker, lambda: island.third(*three))
                for names in (["lea", name], [name, "lea"], ["lea", "moor", name], [name, name]):
                    self.refused(NoGround, lambda: island.meeting(names))

    def test_no_body(self):
        self.refused(NoBody, lambda: Island().meeting([]))
        self.refused(NoBody, lambda: small_island().meeting([]))


class BackAndForth(unittest.TestCase):
    def all_states(self, deeds):
        """What can be asked ahead of each deed, and behind the last one."""
        island = Island()
        states = [slow.asked(island)]
        for deed in deeds:
            island.do(deed)
            states.append(slow.asked(island))
        return island, states

    def test_all_the_way_back_and_forth(self):
        for seed, words in itertools.product(range(4), (slow.ANY_DEEDS, slow.BUSY_DEEDS)):
            deeds = slow.drawn_deeds(seed, 45, words)
            island, states = self.all_states(deeds)
            for turn in range(2):
                for many in range(len(deeds), 0, -1):
                    self.assertEqual(island.undo(), deeds[many - 1])
                    self.assertEqual((slow.asked(island), island.deeds()), (states[many - 1], deeds[:many - 1]))
                self.nothing_left(island.undo)
                self.assertEqual((slow.asked(island), island.deeds()), (states[0], []))
                for many, deed in enumerate(deeds):
                    self.assertEqual(island.redo(), deed)
                    self.assertEqual((slow.asked(island), island.deeds()), (states[many + 1], deeds[:many + 1]))
                self.nothing_left(island.redo)
                self.assertEqual((slow.asked(island), island.deeds()), (states[-1], deeds))

    def nothing_left(self, ask):
        for time in range(2):
            with self.assertRaises(NothingLeft):
                ask()

    def test_nothing_left_at_first(self):
        island = Island()
        self.nothing_left(island.undo)
        self.nothing_left(island.redo)
        island.turn(0)
        self.nothing_left(island.redo)
        self.assertEqual(island.undo(), ("turn", 0))
        self.nothing_left(island.undo)
        self.assertEqual(island.redo(), ("turn", 0))

    def test_a_new_deed_behind_takings_back(self):
        deeds = slow.drawn_deeds(7, 30)
        for back in (1, 2, 9, 30):
            island, states = self.all_states(deeds)
            for time in range(back):
                island.undo()
            # Also a deed that changes nothing, and the very deed that was taken back.
            new = deeds[30 - back] if back == 2 else ("turn", 0)
            island.do(new)
            self.nothing_left(island.redo)
            self.assertEqual(island.deeds(), deeds[:30 - back] + [new])
            self.assertEqual(island.undo(), new)
            self.assertEqual(slow.asked(island), states[30 - back])
            self.assertEqual(island.redo(), new)
            self.nothing_left(island.redo)

    def test_deeds_that_change_nothing_count(self):
        island = row_of(["ash", "ash"])
        island.land("ann", 0)
        island.fence("lea", ["ann"])
        island.call("yule", ["ann"])
        before = slow.asked(island)
        nothing = [("turn", 0), ("turn", 2), ("go", "ann", ()), ("fence", "lea", ("ann",)), ("call", "yule", ("ann",)),
                   ("turn", 0)]
        for deed in nothing:
            island.do(deed)
        self.assertEqual(slow.asked(island), before)
        self.assertEqual(island.deeds()[-6:], nothing)
        self.assertEqual([island.undo() for deed in nothing], nothing[::-1])
        self.assertEqual(island.undo(), ("call", "yule", ("ann",)))

    def test_refused_deeds_do_not_count(self):
        island = row_of(["ash", "ash"])
        island.undo()
        for deed in (("fill", "zed"), ("turn", 9), ("dig", "Ash", 0, 0, "home"), ("call", "yule", ())):
            with self.assertRaises(errors.ShoreError):
                island.do(deed)
        self.assertEqual(island.deeds(), [])
        self.nothing_left(island.undo)
        self.assertEqual(island.redo(), ("dig", "ash", 0, 0, "home"))


class Twins(unittest.TestCase):
    def test_the_same_to_take_back_and_to_do_again(self):
        for seed in range(3):
            island = drawn_island(seed, 40)
            for time in range(8):
                island.undo()
            twin = island.twin()
            self.assertIsNot(twin, island)
            self.assertEqual((slow.asked(twin), twin.deeds()), (slow.asked(island), island.deeds()))
            self.assertEqual([twin.redo() for time in range(8)], [island.redo() for time in range(8)])
            for one in (island, twin):
                with self.assertRaises(NothingLeft):
                    one.redo()
            self.assertEqual([twin.undo() for time in range(40)], [island.undo() for time in range(40)])

    def test_each_goes_its_own_way(self):
        for seed in range(3):
            models = [slow.SlowDeeds() for time in range(3)]
            twins = [Island()]
            for deed in slow.drawn_deeds(seed, 20):
                twins[0].do(deed)
                for model in models:
                    model.do(deed)
            twins.append(twins[0].twin())
            # A twin of a twin.
            twins.append(twins[1].twin())
            drawers = [slow.Drawer(seed * 9 + number) for number in range(3)]
            for time in range(40):
                for island, model, drawer in zip(twins, models, drawers):
                    self.one_change(island, model, drawer)
                for island, model in zip(twins, models):
                    self.assertEqual((slow.asked(island), island.deeds()), (model.now().asked(), model.done))

    def one_change(self, island, model, drawer):
        if drawer.below(4) == 0 and model.done:
            self.assertEqual(island.undo(), model.undo())
        elif drawer.below(4) == 0 and model.undone:
            self.assertEqual(island.redo(), model.redo())
        else:
            deed = drawer.deed(model.now())
            if model.do(deed) is None:
                island.do(deed)

    def test_a_twin_of_nothing(self):
        island = Island()
        twin = island.twin()
        twin.dig("ash", 0, 0, "home")
        self.assertEqual((island.row(), twin.row()), ([], ["ash", "ash"]))
        with self.assertRaises(NothingLeft):
            island.undo()


class Deeds(unittest.TestCase):
    def test_as_told(self):
        island = small_island()
        island.go("ann", ())
        island.go("ann", ("ash", "bo"))
        island.close("yule")
        island.unfence("moor")
        island.leave("dig")
        island.fill("bo")
        island.turn(3)
        self.assertEqual(island.deeds(), [
            ("dig", "ash", 0, 0, "home"), ("dig", "bo", 1, 1, "home"), ("dig", "cole", 3, 4, "home"),
            ("dig", "elm", 6, 6, "home"), ("land", "ann", 2), ("land", "bo", 4), ("land", "cy", 0), ("land", "dig", 7),
            ("walk", "cy", "cole"), ("fence", "lea", ("ann", "bo")), ("fence", "moor", ("dig",)),
            ("fence", "off", ("cy", "bo")), ("call", "yule", ("dig", "ann", "ann")), ("go", "ann", ()),
            ("go", "ann", ("ash", "bo")), ("close", "yule"), ("unfence", "moor"), ("leave", "dig"), ("fill", "bo"),
            ("turn", 3)])

    def test_done_again_on_another_island(self):
        for seed in range(5):
            island = drawn_island(seed, 50, slow.ANY_DEEDS)
            by_do, by_name = Island(), Island()
            for deed in island.deeds():
                self.assertIsNone(by_do.do(deed))
                word, *handed = deed
                if word in ("fence", "call"):
                    handed[1] = list(handed[1])
                self.assertIsNone(getattr(by_name, word)(*handed))
            for other in (by_do, by_name):
                self.assertEqual((slow.asked(other), other.deeds()), (slow.asked(island), island.deeds()))


class NothingKept(unittest.TestCase):
    def test_lists_handed_in_and_changed(self):
        island = small_island()
        walkers = ["ann", "cy"]
        island.fence("q", walkers)
        island.call("q", walkers)
        before = (slow.asked(island), island.deeds())
        walkers.append("zed")
        walkers.reverse()
        del walkers[1]
        self.assertEqual((slow.asked(island), island.deeds()), before)
        self.assertEqual(island.deeds()[-2:], [("fence", "q", ("ann", "cy")), ("call", "q", ("ann", "cy"))])
        names = ["lea", "moor", "off"]
        island.meeting(names)
        self.assertEqual(names, ["lea", "moor", "off"])

    def test_lists_handed_in_stay(self):
        island = small_island()
        for walkers in ([], ["ann"], ["bo", "ann", "bo"], ["ann", "zed"]):
            kept = list(walkers)
            for ask in (island.fence, island.call):
                try:
                    ask("lea", walkers)
                except errors.ShoreError:
                    pass
                self.assertEqual(walkers, kept)

    def test_lists_told_and_changed(self):
        island = small_island()
        island.undo()
        island.redo()
        asks = (island.row, island.plots, island.walkers, island.grounds, island.moots, island.deeds,
                lambda: island.way("cy")[1], lambda: island.ground("lea"), lambda: island.ground("off"),
                lambda: island.bidden("yule"), lambda: island.least("yule"), lambda: island.on_ground("lea"),
                lambda: island.apart("ann", "cy"))
        before = slow.asked(island)
        for ask in asks:
            first = ask()
            told = list(first)
            first.reverse()
            first.append("zed")
            del first[0]
            self.assertEqual(ask(), told)
            self.assertEqual(slow.asked(island), before)
        self.assertEqual(island.undo(), ("call", "yule", ("dig", "ann", "ann")))


if __name__ == "__main__":
    unittest.main()
