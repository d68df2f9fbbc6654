"""The post: letters in any order, again, clashing, lost, and deeds done on its island otherwise."""

import inspect
import itertools
import unittest

from shoretold import errors
from shoretold.errors import BadNumber, Clash
from shoretold.island import Island
from shoretold.notes import written
from shoretold.post import Post
from tests import islands, slow

LINES = ["dig ash 0 0 home", "land ann 1", "walk ann ash", "fence lea ann", "turn 1"]
NO_DEEDS = ["", " ", "hello", "turn", "turn 00", "turn +0", "turn 0 ", " turn 0", "turn  0", "undo", "redo", "dig ash 0 0",
            "dig ash 0 0 home home", "land ann", "land ann 0 0", "walk ann", "go", "fence", "turn -1", "turn 99999999999999",
            "turn " + "9" * 5000, "Turn 0", "turn 0\n", "turn 0\nturn 0", "~!@#$^&*()"]


def clashing(post, number, line):
    try:
        post.take(number, line)
    except Clash:
        return True
    return False


class Interface(unittest.TestCase):
    def test_arguments_bear_their_names(self):
        self.assertEqual(str(inspect.signature(Post)), "()")
        for name, arguments in (("take", "number line"), ("waiting", ""), ("lost", "")):
            self.assertEqual(list(inspect.signature(getattr(Post(), name)).parameters), arguments.split())

    def test_no_letter_yet(self):
        post = Post()
        self.assertIs(type(post.island), Island)
        self.assertEqual((post.waiting(), post.lost(), post.island.deeds()), ([], [], []))

    def test_each_its_own_island(self):
        one, other = Post(), Post()
        one.take(0, LINES[0])
        self.assertEqual((other.island.deeds(), other.waiting(), other.lost()), ([], [], []))


class AnyOrder(unittest.TestCase):
    def test_by_hand(self):
        post = Post()
        self.assertEqual(post.take(2, LINES[2]), [])
        self.assertEqual(post.waiting(), [2])
        self.assertEqual(post.take(0, LINES[0]), [0])
        self.assertEqual(post.island.row(), ["ash", "ash"])
        self.assertEqual(post.take(4, LINES[4]), [])
        self.assertEqual(post.waiting(), [2, 4])
        self.assertEqual(post.take(1, LINES[1]), [1, 2])
        self.assertEqual((post.waiting(), post.island.place("ann")), ([4], ()))
        self.assertEqual(post.take(3, LINES[3]), [3, 4])
        self.assertEqual((post.waiting(), post.lost()), ([], []))
        self.assertEqual(written(post.island), "\n".join(LINES))

    def test_all_orders(self):
        for order in itertools.permutations(range(len(LINES))):
            post = Post()
            island = post.island
            come = []
            for many, number in enumerate(order):
                told = post.take(number, LINES[number])
                self.assertIs(type(told), list)
                come += told
                taken = order[:many + 1]
                turn = next(at for at in range(len(LINES) + 1) if at not in taken)
                self.assertEqual(come, list(range(turn)), order)
                self.assertEqual(post.waiting(), sorted(at for at in taken if at > turn))
                self.assertEqual(written(post.island), "\n".join(LINES[:turn]))
            self.assertEqual(post.lost(), [])
            self.assertIs(post.island, island)

    def test_against_an_island(self):
        for seed in range(6):
            model, drawer = slow.SlowDeeds(), slow.Drawer(seed)
            deeds, lost = [], []
            for number in range(60):
                deed = drawer.deed(model.now())
                deeds.append(deed)
                if model.do(deed) is not None:
                    lost.append(number)
            lines = [self.line_of(deed) for deed in deeds]
            post = Post()
            numbers = islands.numbers_from(seed)
            come = []
            for number in sorted(range(60), key=lambda number: number + next(numbers) % (1 + 20 * seed)):
                come += post.take(number, lines[number])
            self.assertEqual(come, list(range(60)))
            self.assertEqual((post.lost(), post.waiting()), (lost, []))
            self.assertEqual(post.island.deeds(), model.done)
            self.assertEqual(slow.asked(post.island), model.now().asked())

    def line_of(self, deed):
        return " ".join(" ".join(part) if isinstance(part, tuple) else str(part) for part in deed if part != ())

    def test_a_thousand(self):
        post = Post()
        for number in range(999, 0, -1):
            self.assertEqual(post.take(number, "turn 0"), [])
        self.assertEqual(post.waiting(), list(range(1, 1000)))
        self.assertEqual(post.take(0, "turn 1"), list(range(1000)))
        self.assertEqual((post.waiting(), post.lost(), len(post.island.deeds())), ([], [0], 999))


class Lost(unittest.TestCase):
    def test_lines_that_tell_no_deed(self):
        post = Post()
        for number, line in enumerate(NO_DEEDS):
            self.assertEqual(post.take(number, line), [number])
            self.assertEqual((post.lost(), post.waiting()), (list(range(number + 1)), []))
            self.assertEqual(post.island.deeds(), [])
        self.assertEqual(post.take(len(NO_DEEDS), "turn 0"), [len(NO_DEEDS)])
        self.assertEqual(post.island.deeds(), [("turn", 0)])

    def test_deeds_that_are_refused(self):
        post = Post()
        lines = ["dig ash 0 0 home", "dig ash 0 0 home", "fill zed", "dig bo 0 0 on", "land ann 3", "land ann 1",
                 "walk ann bo", "dig bo 1 2 home", "dig cole 2 4 home", "go ann zed", "call yule", "call yule ann",
                 "leave ann", "fence lea zed", "unfence lea", "close lea", "turn 5", "dig Bo 0 0 home", "go ann"]
        for number, line in enumerate(lines):
            before = (slow.asked(post.island), post.island.deeds())
            self.assertEqual(post.take(number, line), [number])
            if number in post.lost():
                self.assertEqual((slow.asked(post.island), post.island.deeds()), before)
        self.assertEqual(post.lost(), [1, 2, 3, 4, 6, 8, 9, 10, 12, 13, 14, 15, 16, 17])
        self.assertEqual(written(post.island), "dig ash 0 0 home\nland ann 1\ndig bo 1 2 home\ncall yule ann\ngo ann")

    def test_not_lost_ahead_of_its_turn(self):
        post = Post()
        post.take(1, "hello")
        self.assertEqual((post.lost(), post.waiting()), ([], [1]))
        post.take(3, "hello")
        self.assertEqual(post.take(0, "hello"), [0, 1])
        self.assertEqual((post.lost(), post.waiting()), ([0, 1], [3]))

    def test_a_lost_letter_does_not_end_what_was_taken_back(self):
        post = Post()
        post.take(0, "turn 0")
        post.island.undo()
        post.take(1, "turn 1")
        post.take(2, "hello")
        self.assertEqual(post.island.redo(), ("turn", 0))


class AgainAndClash(unittest.TestCase):
    def test_again_is_nothing_new(self):
        post = Post()
        for number in (0, 2, 3):
            post.take(number, LINES[number])
        before = (slow.asked(post.island), post.island.deeds())
        for number in (0, 2, 3, 0):
            self.assertEqual(post.take(number, LINES[number]), [])
            self.assertEqual((slow.asked(post.island), post.island.deeds()), before)
            self.assertEqual((post.waiting(), post.lost()), ([2, 3], []))
        self.assertEqual(post.take(1, LINES[1]), [1, 2, 3])
        for number in range(4):
            self.assertEqual(post.take(number, LINES[number]), [])
        self.assertEqual(len(post.island.deeds()), 4)

    def test_lost_ones_again(self):
        post = Post()
        post.take(0, "fill ash")
        self.assertEqual((post.take(0, "fill ash"), post.lost()), ([], [0]))
        # It stays lost, also where it could be done now.
        post.take(1, "dig ash 0 0 home")
        self.assertEqual((post.take(0, "fill ash"), post.lost()), ([], [0]))
        self.assertEqual(post.island.row(), ["ash", "ash"])

    def test_clash_whether_its_turn_has_come_or_not(self):
        post = Post()
        for number in (0, 2, 3):
            post.take(number, LINES[number])
        for number, line in itertools.product((0, 2, 3), ("turn 0", "", LINES[0] + " ", LINES[4], "hello")):
            before = (slow.asked(post.island), post.island.deeds(), post.waiting(), post.lost())
            with self.assertRaises(errors.ShoreError) as caught:
                post.take(number, line)
            self.assertIs(type(caught.exception), Clash)
            self.assertEqual((slow.asked(post.island), post.island.deeds(), post.waiting(), post.lost()), before)
        # The line that came first is the one that is done.
        self.assertEqual(post.take(1, LINES[1]), [1, 2, 3])
        self.assertEqual(written(post.island), "\n".join(LINES[:4]))
        self.assertTrue(clashing(post, 2, LINES[3]))
        self.assertFalse(clashing(post, 2, LINES[2]))

    def test_clash_with_a_lost_one(self):
        post = Post()
        post.take(0, "hello")
        self.assertTrue(clashing(post, 0, "turn 0"))
        self.assertFalse(clashing(post, 0, "hello"))
        self.assertEqual((post.lost(), post.island.deeds()), ([0], []))

    def test_two_numbers_with_one_line(self):
        post = Post()
        self.assertEqual(post.take(0, "turn 0") + post.take(1, "turn 0"), [0, 1])
        self.assertEqual(post.island.deeds(), [("turn", 0), ("turn", 0)])


class Numbers(unittest.TestCase):
    def test_below_and_above(self):
        post = Post()
        post.take(0, LINES[0])
        for number in (-1, -999, 1000, 1001, 10 ** 9, -10 ** 9):
            for line in (LINES[0], LINES[1], "hello"):
                with self.assertRaises(errors.ShoreError) as caught:
                    post.take(number, line)
                self.assertIs(type(caught.exception), BadNumber)
        self.assertEqual((post.waiting(), post.lost(), post.island.deeds()), ([], [], [("dig", "ash", 0, 0, "home")]))

    def test_the_first_and_the_last(self):
        post = Post()
        self.assertEqual((post.take(999, "turn 0"), post.waiting()), ([], [999]))
        self.assertEqual((post.take(0, "turn 0"), post.waiting()), ([0], [999]))


class DoneOtherwise(unittest.TestCase):
    def test_among_the_deeds_of_the_letters(self):
        post = Post()
        island = post.island
        post.take(0, "dig ash 0 0 home")
        island.dig("bo", 2, 2, "home")
        post.take(2, "land cy 3")
        island.land("ann", 3)
        self.assertEqual(post.take(1, "fill bo"), [1, 2])
        self.assertEqual(post.lost(), [2])
        self.assertIs(post.island, island)
        self.assertEqual(written(island), "dig ash 0 0 home\ndig bo 2 2 home\nland ann 3\nfill bo")
        self.assertEqual(island.undo(), ("fill", "bo"))
        post.take(3, "walk ann bo")
        self.assertEqual((post.lost(), island.place("ann")), ([2], ()))
        self.assertEqual(post.take(1, "fill bo"), [])
        self.assertEqual(island.row(), ["ash", "ash", "bo", "bo"])
        self.assertIs(post.island, island)

    def test_what_was_taken_back_is_gone_behind_a_letter(self):
        post = Post()
        post.take(0, "dig ash 0 0 home")
        post.island.undo()
        post.take(1, "land ann 0")
        with self.assertRaises(errors.NothingLeft):
            post.island.redo()
        self.assertEqual(post.island.deeds(), [("land", "ann", 0)])


class NothingKept(unittest.TestCase):
    def test_lists_told_and_changed(self):
        post = Post()
        post.take(0, "hello")
        post.take(2, "hello")
        for ask in (post.waiting, post.lost):
            first = ask()
            told = list(first)
            first.append(7)
            first.reverse()
            del first[-1]
            self.assertEqual(ask(), told)
        come = post.take(1, "turn 0")
        come.append(3)
        self.assertEqual(post.take(3, "turn 0"), [3])
        self.assertEqual((post.lost(), post.waiting()), ([0, 2], []))


if __name__ == "__main__":
    unittest.main()
