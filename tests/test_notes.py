"""Notes: islands written and read back, and texts that are refused."""

import inspect
import itertools
import unittest

from shoretold import notes
from shoretold.errors import BadText, NothingLeft, ShoreError
from shoretold.island import Island
from shoretold.notes import read_back, written
from tests import slow

LINES = [
    "dig ash 0 0 home", "dig bo 1 2 off", "dig cole 4 4 home", "land ann 0", "land bo 5", "walk ann bo", "go bo ash bo",
    "go ann", "go bo", "fence lea ann bo", "call yule bo ann bo", "fence moor ann", "call lea ann", "turn 0", "turn 6",
    "close lea", "unfence moor", "fill cole", "turn 3", "call yule bo", "leave ann",
]
DEEDS = [
    ("dig", "ash", 0, 0, "home"), ("dig", "bo", 1, 2, "off"), ("dig", "cole", 4, 4, "home"), ("land", "ann", 0),
    ("land", "bo", 5), ("walk", "ann", "bo"), ("go", "bo", ("ash", "bo")), ("go", "ann", ()), ("go", "bo", ()),
    ("fence", "lea", ("ann", "bo")), ("call", "yule", ("bo", "ann", "bo")), ("fence", "moor", ("ann",)),
    ("call", "lea", ("ann",)), ("turn", 0), ("turn", 6), ("close", "lea"), ("unfence", "moor"), ("fill", "cole"),
    ("turn", 3), ("call", "yule", ("bo",)), ("leave", "ann"),
]


class Interface(unittest.TestCase):
    def test_arguments_bear_their_names(self):
        for name, argument in (("written", "island"), ("read_back", "text")):
            self.assertEqual(list(inspect.signature(getattr(notes, name)).parameters), [argument])


class Written(unittest.TestCase):
    def test_line_by_line(self):
        island = Island()
        self.assertEqual(written(island), "")
        for many, deed in enumerate(DEEDS):
            island.do(deed)
            self.assertEqual(written(island), "\n".join(LINES[:many + 1]))

    def test_what_was_taken_back_is_not_written(self):
        island = Island()
        for deed in DEEDS:
            island.do(deed)
        for many in range(len(DEEDS) - 1, -1, -1):
            island.undo()
            self.assertEqual(written(island), "\n".join(LINES[:many]))
        island.redo()
        self.assertEqual(written(island), LINES[0])

    def test_the_island_stays(self):
        island = Island()
        for deed in DEEDS:
            island.do(deed)
        island.undo()
        before = (slow.asked(island), island.deeds())
        written(island)
        self.assertEqual((slow.asked(island), island.deeds()), before)
        self.assertEqual(island.redo(), DEEDS[-1])

    def test_numbers_of_two_figures(self):
        island = Island()
        for number, name in enumerate("abcdefgh"):
            island.dig(name, 2 * number, 2 * number, "home")
        island.turn(10)
        island.land("ann", 16)
        self.assertEqual(written(island).split("\n")[5:], ["dig f 10 10 home", "dig g 12 12 home", "dig h 14 14 home",
                                                           "turn 10", "land ann 16"])
        self.assertEqual(read_back(written(island)).deeds(), island.deeds())


class ReadBack(unittest.TestCase):
    def test_the_empty_text(self):
        island = read_back("")
        self.assertIs(type(island), Island)
        self.assertEqual((island.deeds(), island.row()), ([], []))
        for ask in (island.undo, island.redo):
            with self.assertRaises(NothingLeft):
                ask()

    def test_by_hand(self):
        for many in range(len(LINES) + 1):
            island = read_back("\n".join(LINES[:many]))
            self.assertEqual(island.deeds(), DEEDS[:many])

    def test_the_same_to_take_back_and_nothing_to_do_again(self):
        for seed in range(12):
            words = (slow.ANY_DEEDS, slow.BUSY_DEEDS)[seed % 2]
            island = Island()
            for deed in slow.drawn_deeds(seed, 40, words):
                island.do(deed)
            for time in range(seed):
                island.undo()
            text = written(island)
            other = read_back(text)
            self.assertEqual((slow.asked(other), other.deeds()), (slow.asked(island), island.deeds()))
            self.assertEqual(written(other), text)
            with self.assertRaises(NothingLeft):
                other.redo()
            for deed in island.deeds()[::-1]:
                self.assertEqual((other.undo(), island.undo()), (deed, deed))
                self.assertEqual(slow.asked(other), slow.asked(island))
            with self.assertRaises(NothingLeft):
                other.undo()

    def test_each_its_own_island(self):
        one, other = read_back(LINES[0]), read_back(LINES[0])
        one.fill("ash")
        self.assertEqual(other.row(), ["ash", "ash"])

    def test_names_that_are_words_of_the_tongue(self):
        island = Island()
        for deed in (("dig", "home", 0, 0, "off"), ("dig", "off", 1, 1, "home"), ("dig", "dig", 0, 4, "off"),
                     ("land", "go", 0), ("land", "land", 3), ("land", "fence", 1), ("walk", "go", "dig"),
                     ("go", "fence", ("dig", "home")), ("fence", "fence", ("fence", "go")), ("fence", "off", ("land",)),
                     ("call", "call", ("go", "land", "fence")), ("call", "home", ("go",)), ("unfence", "off"),
                     ("close", "call"), ("fill", "home"), ("leave", "fence")):
            island.do(deed)
        text = written(island)
        self.assertIn("\nfence fence fence go\n", text)
        other = read_back(text)
        self.assertEqual((slow.asked(other), other.deeds()), (slow.asked(island), island.deeds()))


class Refused(unittest.TestCase):
    def refused(self, text):
        with self.assertRaises(ShoreError, msg=repr(text)) as caught:
            read_back(text)
        self.assertIs(type(caught.exception), BadText, repr(text))

    def test_lines_too_many(self):
        for at in range(len(LINES) + 1):
            self.refused("\n".join(LINES[:at] + [""] + LINES[at:]))
        for text in ("\n", "\n\n", " ", "\n" + LINES[0], LINES[0] + "\n", "\n".join(LINES) + "\n"):
            self.refused(text)

    def test_blanks_and_line_feeds_too_many(self):
        for at, line in enumerate(LINES):
            places = [place for place, sign in enumerate(line) if sign == " "] + [0, len(line)]
            for place, sign in itertools.product(places, (" ", "  ", "\n", "\t")):
                spoilt = line[:place] + sign + line[place:]
                self.refused("\n".join(LINES[:at] + [spoilt] + LINES[at + 1:]))
                self.refused("\n".join(LINES[:at] + [spoilt]))

    def test_blanks_left_out(self):
        for at, line in enumerate(LINES):
            for place, sign in enumerate(line):
                # Of a line of names one may still be a deed: fence lea ann bo, fence leaann bo.
                if sign == " " and not line.startswith(("fence ", "call ")):
                    self.refused("\n".join(LINES[:at] + [line[:place] + line[place + 1:]]))
        self.refused(LINES[0] + LINES[1])
        self.refused(LINES[0] + " " + LINES[1])

    def test_numbers(self):
        for number in ("00", "+0", "-0", "0x0", "0.0", "", "0_0", "nought", "1", "-1", "0 ", "+1", "O", "0" * 30,
                       "9" * 30, "9" * 9, "1e0", "9" * 5000, "0" * 5000):
            for line in (f"dig ash {number} 0 home", f"dig ash 0 {number} home", f"land ann {number}",
                         f"turn {number}"):
                self.refused(line)
        two = "dig a 0 0 home\n"
        for number in ("01", "02", "+1", "-1", "3", "1_0", "002", "1.", "10", "20"):
            for line in (f"dig ash {number} 2 home", f"dig ash 0 {number} home", f"land ann {number}",
                         f"turn {number}"):
                self.refused(two + line)

    def test_unknown_deeds(self):
        for line in ("", "ash", "digs ash 0 0 home", "Dig ash 0 0 home", "DIG ash 0 0 home", "undo", "redo", "twin",
                     "do turn 0", "place ann", "deeds", "row", "take 0 turn 0", "0", "# turn 0", "None"):
            self.refused("turn 0\n" + line)
            if line:
                self.refused(line)

    def test_words_too_few_and_too_many(self):
        for at, line in enumerate(LINES):
            words = line.split(" ")
            ahead = LINES[:at]
            for many in range(1, len(words)):
                fewer = " ".join(words[:many])
                # go, fence and call may be handed other many names.
                if words[0] in ("go", "fence", "call") and many >= 2:
                    continue
                self.refused("\n".join(ahead + [fewer]))
            if words[0] not in ("go", "fence", "call"):
                for more in ("ann", "0", "home", "zed"):
                    self.refused("\n".join(ahead + [line + " " + more]))

    def test_names_of_no_walker_and_no_plot_behind(self):
        ahead = "\n".join(LINES[:9]) + "\n"
        for line in ("fence lea", "call yule", "fence lea ann zed", "call yule zed", "go ann zed", "go ann bo ash",
                     "go ann ash ash", "go zed", "fence", "call", "go", "fence lea ann,bo", "go ann ()"):
            self.refused(ahead + line)

    def test_deeds_refused_where_they_stand(self):
        for line in LINES[1:]:
            if line.split(" ")[0] not in ("dig", "turn", "land"):
                self.refused(line)
        for lines in (["dig ash 0 0 on"], ["dig Ash 0 0 home"], ["dig ash 0 1 home"], ["dig ash 0 0 home"] * 2,
                      ["land ann 0"] * 2, ["turn 1"], ["land Ann 0"], ["dig ninesigns 0 0 home"],
                      ["dig a 0 0 home", "dig b 1 2 home", "dig c 2 4 home"],
                      ["land ann 0", "call yule ann", "leave ann"],
                      ["dig a 0 0 home", "land ann 0", "walk ann a"] + ["walk ann a"] * 40,
                      ["dig a 0 0 home", "dig b 1 1 home", "land ann 0", "walk ann b"]):
            self.refused("\n".join(lines))
            self.refused("\n".join(lines + ["turn 0"]))
        names = "abcdefghijklmno"
        self.refused("\n".join(f"dig {name} 0 0 home" for name in names))
        self.assertEqual(len(read_back("\n".join(f"dig {name} 0 0 home" for name in names[:14])).row()), 28)

    def test_any_sign_left_out_put_in_or_changed(self):
        """Each text is refused, or is just what is written of the island that it is read to."""
        text = "\n".join(LINES)
        read = 0
        for at in range(len(text)):
            for spoilt in (text[:at] + text[at + 1:], text[:at] + " " + text[at:], text[:at] + "0" + text[at:],
                           text[:at] + "\n" + text[at + 1:], text[:at] + "a" + text[at + 1:],
                           text[:at] + "1" + text[at + 1:]):
                try:
                    island = read_back(spoilt)
                except BadText:
                    continue
                read += 1
                self.assertEqual(written(island), spoilt)
        self.assertGreater(read, 20)


if __name__ == "__main__":
    unittest.main()
