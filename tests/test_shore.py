"""The row of ends: good rows, how ditches lie, turning, mirroring, putting in, leaving out."""

import inspect
import itertools
import unittest

from shoretold import shore
from shoretold.errors import BadName, BadShore, Barred, Full, NoDitch, NoPlace, Taken
from shoretold.shore import (checked, crossings, ditches, ends, left_out, lie, mirrored, put_in,
                             turned)
from tests import islands

FIFTEEN = list(islands.GOOD_NAMES) + ["oak"]


class Interface(unittest.TestCase):
    def test_arguments_bear_their_names(self):
        told = {"checked": "row", "ditches": "row", "ends": "row name", "lie": "row one other",
                "crossings": "row", "turned": "row by", "mirrored": "row",
                "put_in": "row name at to", "left_out": "row name"}
        for name, arguments in told.items():
            with self.subTest(name=name):
                self.assertEqual(list(inspect.signature(getattr(shore, name)).parameters), arguments.split())


class Checked(unittest.TestCase):
    def test_good_rows_are_told_as_a_new_list(self):
        for row in islands.rows() + [["a"] * 2, ["abcdefgh", "az", "az", "abcdefgh"]]:
            with self.subTest(row=row):
                kept = list(row)
                told = checked(row)
                self.assertEqual(told, kept)
                self.assertIs(type(told), list)
                self.assertIsNot(told, row)
                told.append("zed")
                self.assertEqual(row, kept)
                self.assertEqual(checked(row), kept)

    def test_bad_names(self):
        for name in islands.BAD_NAMES:
            for row in ([name] * 2, ["ash", name, name, "ash"], ["ash", "ash", name, name]):
                with self.subTest(row=row), self.assertRaises(BadName):
                    checked(row)

    def test_names_that_do_not_stand_twice(self):
        for many in (1, 3, 4, 5, 6):
            for row in (["ash"] * many, ["bo"] + ["ash"] * many + ["bo"], ["bo", "bo"] + ["ash"] * many):
                with self.subTest(row=row), self.assertRaises(BadShore):
                    checked(row)

    def test_counts_that_even_out_are_no_good(self):
        for row in (["ash", "bo"], ["ash", "bo", "bo", "bo"], ["ash", "bo", "ash", "ash"]):
            with self.subTest(row=row), self.assertRaises(BadShore):
                checked(row)

    def test_too_many_ditches(self):
        for names in (FIFTEEN, FIFTEEN + ["pine"], FIFTEEN + ["a" * many for many in range(1, 9)]):
            for row in (names + names[::-1], [name for name in names for end in range(2)]):
                with self.subTest(row=row), self.assertRaises(Full):
                    checked(row)

    def test_three_that_cross_each_other(self):
        many = 0
        for number in range(3, 6):
            for numbers in islands.diagrams(number):
                for names in (islands.GOOD_NAMES[:number], islands.GOOD_NAMES[number - 1::-1]):
                    row = [names[number] for number in numbers]
                    if islands.barred(row):
                        many += 1
                        self.refused_with_first_three(row)
        self.assertGreater(many, 100)

    def test_fourteen_that_all_cross(self):
        for names in (islands.GOOD_NAMES, islands.GOOD_NAMES[::-1]):
            self.refused_with_first_three(list(names) * 2)

    def refused_with_first_three(self, row):
        with self.subTest(row=row):
            kept = list(row)
            with self.assertRaises(Barred) as caught:
                checked(row)
            self.assertEqual(caught.exception.three, islands.barred(row)[0])
            self.assertIs(type(caught.exception.three), tuple)
            self.assertEqual(row, kept)

    def test_the_first_refusal_that_is_due(self):
        due = [
            (["Ash"], BadName),
            (["ash", "Bo", "Bo"], BadName),
            (["ash", "ash", "ash", ""], BadName),
            (FIFTEEN * 2 + ["", ""], BadName),
            (["ash", "bo", "elm"] * 2 + ["x y"] * 2, BadName),
            (FIFTEEN * 2 + ["pine"], BadShore),
            (FIFTEEN * 3, BadShore),
            (["ash", "bo", "elm"] * 2 + ["fen"], BadShore),
            (["ash", "bo", "elm"] * 4, BadShore),
            (FIFTEEN * 2, Full),
        ]
        for row, refusal in due:
            kept = list(row)
            with self.subTest(row=row), self.assertRaises(refusal):
                checked(row)
            self.assertEqual(row, kept)


class Lying(unittest.TestCase):
    def test_ditches_rise(self):
        self.assertEqual(ditches([]), [])
        self.assertEqual(ditches(["elm", "ash", "ash", "bo", "elm", "bo"]), ["ash", "bo", "elm"])
        for row in islands.rows():
            self.assertEqual(ditches(row), sorted(set(row)))

    def test_ends_are_the_two_places(self):
        self.assertEqual(ends(["elm", "ash", "ash", "elm"], "elm"), (0, 3))
        self.assertEqual(ends(["elm", "ash", "ash", "elm"], "ash"), (1, 2))
        for row in islands.rows():
            for name in set(row):
                found = ends(row, name)
                self.assertIs(type(found), tuple)
                self.assertEqual(found, tuple(at for at in range(len(row)) if row[at] == name))

    def test_the_five_words_both_ways_about(self):
        row = ["ash", "bo", "bo", "cole", "ash", "cole", "elm", "elm"]
        told = [("ash", "cole", "cross"), ("cole", "ash", "cross"), ("bo", "ash", "within"),
                ("ash", "bo", "around"), ("ash", "elm", "apart"), ("elm", "ash", "apart"),
                ("bo", "cole", "apart"), ("cole", "bo", "apart"), ("ash", "ash", "same"),
                ("elm", "elm", "same"), ("bo", "bo", "same")]
        for one, other, how in told:
            with self.subTest(one=one, other=other):
                self.assertEqual(lie(row, one, other), how)

    def test_each_order_of_four_ends(self):
        told = {"aabb": "apart", "bbaa": "apart", "abab": "cross", "baba": "cross",
                "baab": "within", "abba": "around"}
        for row in islands.rows():
            for one, other in itertools.permutations(sorted(set(row)), 2):
                order = "".join("a" if name == one else "b" for name in row if name in (one, other))
                self.assertEqual(lie(row, one, other), told[order], (row, one, other))
            for name in set(row):
                self.assertEqual(lie(row, name, name), "same")

    def test_crossings_rise(self):
        self.assertEqual(crossings([]), [])
        self.assertEqual(crossings(["elm", "bo", "elm", "ash", "bo", "ash"]), [("ash", "bo"), ("bo", "elm")])
        for row in islands.rows():
            self.assertEqual(crossings(row), [pair for pair in itertools.combinations(sorted(set(row)), 2)
                                              if islands.crosses(row, *pair)])
        self.assertEqual(len(crossings(islands.grid(7, 7))), 49)

    def test_strangers_are_refused(self):
        for row in ([], ["ash", "ash"], islands.grid(3, 4)):
            for stranger in ("zed", "", "as", "ashes", "Ash", "no name"):
                calls = [lambda: ends(row, stranger), lambda: lie(row, stranger, stranger),
                         lambda: left_out(row, stranger)]
                for name in row[:1]:
                    calls += [lambda: lie(row, name, stranger), lambda: lie(row, stranger, name)]
                for number, call in enumerate(calls):
                    with self.subTest(row=row, stranger=stranger, number=number), self.assertRaises(NoDitch):
                        call()


class Turning(unittest.TestCase):
    def test_turned_by_each_number_and_on_by_the_rest(self):
        self.assertEqual(turned(["ash", "bo", "ash", "bo"], 1), ["bo", "ash", "bo", "ash"])
        self.assertEqual(turned(["ash", "ash", "bo", "bo"], 3), ["bo", "ash", "ash", "bo"])
        for row in islands.rows():
            kept = list(row)
            for by in range(len(row) + 1):
                told = turned(row, by)
                self.assertEqual(told, [row[(at + by) % len(row)] for at in range(len(row))])
                self.assertIsNot(told, row)
                self.assertEqual(turned(told, len(row) - by), row)
            self.assertEqual(turned(row, 0), row)
            self.assertEqual(turned(row, len(row)), row)
            self.assertEqual(row, kept)

    def test_turned_below_none_or_beyond_all(self):
        for row in ([], ["ash", "ash"], islands.grid(7, 7)):
            for by in (-1, -2, -len(row) - 1, len(row) + 1, len(row) + 2, 1000, -1000):
                with self.subTest(row=row, by=by), self.assertRaises(NoPlace):
                    turned(row, by)

    def test_mirrored(self):
        self.assertEqual(mirrored([]), [])
        self.assertEqual(mirrored(["ash", "bo", "bo", "ash", "elm", "elm"]),
                         ["elm", "elm", "ash", "bo", "bo", "ash"])
        for row in islands.rows():
            kept = list(row)
            self.assertEqual(mirrored(row), list(reversed(row)))
            self.assertEqual(mirrored(mirrored(row)), row)
            self.assertEqual(row, kept)


class PuttingIn(unittest.TestCase):
    def test_at_each_two_gaps(self):
        for row in list(islands.small_rows()) + [islands.dug_row(1, 9), islands.grid(6, 7)]:
            kept = list(row)
            for at, to in itertools.combinations_with_replacement(range(len(row) + 1), 2):
                more = list(row)
                more.insert(to, "new")
                more.insert(at, "new")
                self.put_in_or_barred(row, at, to, more)
                self.assertEqual(row, kept)

    def put_in_or_barred(self, row, at, to, more):
        bars = islands.barred(more)
        with self.subTest(row=row, at=at, to=to):
            if bars:
                with self.assertRaises(Barred) as caught:
                    put_in(row, "new", at, to)
                self.assertEqual(caught.exception.three, bars[0])
            else:
                told = put_in(row, "new", at, to)
                self.assertEqual(told, more)
                self.assertEqual(left_out(told, "new"), row)
                self.assertEqual(told, more)

    def test_both_ends_at_one_gap_stand_side_by_side(self):
        self.assertEqual(put_in([], "ash", 0, 0), ["ash", "ash"])
        self.assertEqual(put_in(["ash", "ash"], "bo", 0, 0), ["bo", "bo", "ash", "ash"])
        self.assertEqual(put_in(["ash", "ash"], "bo", 1, 1), ["ash", "bo", "bo", "ash"])
        self.assertEqual(put_in(["ash", "ash"], "bo", 2, 2), ["ash", "ash", "bo", "bo"])

    def test_gaps_are_those_of_the_row_as_it_is(self):
        self.assertEqual(put_in(["ash", "ash"], "bo", 0, 1), ["bo", "ash", "bo", "ash"])
        self.assertEqual(put_in(["ash", "ash"], "bo", 0, 2), ["bo", "ash", "ash", "bo"])
        self.assertEqual(put_in(["ash", "ash"], "bo", 1, 2), ["ash", "bo", "ash", "bo"])

    def test_barred_by_the_first_three(self):
        row = ["fen", "elm", "cole", "elm", "fen", "cole", "bo", "bo"]
        self.assertEqual(checked(row), row)
        with self.assertRaises(Barred) as caught:
            put_in(row, "dyke", 2, 5)
        # dyke would cross cole, elm and fen, and cole crosses elm and fen.
        self.assertEqual(caught.exception.three, ("cole", "dyke", "elm"))

    def test_bad_names_and_taken_ones(self):
        for name in islands.BAD_NAMES:
            for row in ([], ["ash", "ash"]):
                with self.subTest(row=row, name=name), self.assertRaises(BadName):
                    put_in(row, name, 0, 0)
        for name in islands.grid(2, 2):
            with self.subTest(name=name), self.assertRaises(Taken):
                put_in(islands.grid(2, 2), name, 0, 0)

    def test_the_fourteenth_and_the_fifteenth(self):
        told = put_in(islands.grid(6, 7), "oak", 0, 0)
        self.assertEqual(checked(told), told)
        self.assertEqual(len(ditches(told)), 14)
        with self.assertRaises(Full):
            put_in(told, "pine", 0, 0)

    def test_places_that_are_not_there(self):
        for row in ([], ["ash", "ash"], islands.grid(3, 3)):
            last = len(row)
            for at, to in ((-1, 0), (-1, -1), (-2, last), (1, 0), (last, last - 1), (0, last + 1),
                           (last + 1, last + 1), (last + 1, last), (0, 1000), (-1000, 0), (0, -1)):
                with self.subTest(row=row, at=at, to=to), self.assertRaises(NoPlace):
                    put_in(row, "new", at, to)

    def test_the_first_refusal_that_is_due(self):
        small, full = ["ash", "bo", "ash", "bo"], islands.grid(7, 7)
        due = [
            (full, "Ash", -1, 99, BadName), (full, "", 0, 0, BadName), (small, "a1", 3, 2, BadName),
            (full, "ash", -1, 99, Taken), (full, "ash", 0, 0, Taken), (small, "bo", 3, 2, Taken),
            (full, "new", -1, 99, Full), (full, "new", 7, 21, Full), (full, "new", 0, 0, Full),
            (small, "new", 3, 1, NoPlace), (small, "new", 1, 5, NoPlace), (small, "new", 1, 3, Barred),
        ]
        for row, name, at, to, refusal in due:
            kept = list(row)
            with self.subTest(row=row, name=name, at=at, to=to), self.assertRaises(refusal):
                put_in(row, name, at, to)
            self.assertEqual(row, kept)

    def test_left_out(self):
        self.assertEqual(left_out(["ash", "ash"], "ash"), [])
        self.assertEqual(left_out(["ash", "bo", "ash", "bo"], "ash"), ["bo", "bo"])
        for row in islands.rows():
            kept = list(row)
            for name in set(row):
                self.assertEqual(left_out(row, name), [end for end in row if end != name])
                self.assertEqual(put_in(left_out(row, name), name, *gaps_of(row, name)), row)
            self.assertEqual(row, kept)


def gaps_of(row, name):
    """The gaps of the row without the ditch at which its ends stood."""
    at = row.index(name)
    return (at, row.index(name, at + 1) - 1)


class ToldAnew(unittest.TestCase):
    def test_changed_lists_change_nothing(self):
        row = islands.grid(3, 4)
        kept = list(row)
        for ask in (lambda: checked(row), lambda: ditches(row), lambda: crossings(row),
                    lambda: turned(row, 0), lambda: turned(row, 3), lambda: turned(row, len(row)),
                    lambda: mirrored(row), lambda: put_in(row, "new", 2, 2), lambda: left_out(row, "ash")):
            first = ask()
            told = list(first)
            first.reverse()
            first.append("zed")
            self.assertEqual(ask(), told)
            self.assertEqual(row, kept)
        self.assertEqual([type(pair) for pair in crossings(row)], [tuple] * 12)


if __name__ == "__main__":
    unittest.main()
