"""The refusals: their names, what they stand under, their fields."""

import itertools
import unittest

from shoretold import errors

PLAIN = ("BadName", "BadShore", "Full", "NoDitch", "NoPlace", "NoPlot", "NoCrossing", "NoWalk",
         "BadGround", "NoBody", "Taken", "BadBank", "NoWalker", "Tired", "Bidden", "NoGround",
         "NoMoot", "NothingLeft", "BadText", "BadNumber", "Clash")
REFUSALS = PLAIN + ("Barred", "NotBeside")


class Errors(unittest.TestCase):
    def test_any_refusal_is_a_value_error(self):
        self.assertEqual(errors.ShoreError.__bases__, (ValueError,))

    def test_each_stands_straight_under_shore_error(self):
        for name in REFUSALS:
            with self.subTest(name=name):
                refusal = getattr(errors, name)
                self.assertEqual(refusal.__name__, name)
                self.assertEqual(refusal.__bases__, (errors.ShoreError,))

    def test_none_is_taken_by_another_ones_name(self):
        for one, other in itertools.permutations(REFUSALS, 2):
            with self.subTest(one=one, other=other):
                self.assertFalse(issubclass(getattr(errors, one), getattr(errors, other)))

    def test_each_is_raised_and_taken_by_any_of_its_names(self):
        for name in PLAIN:
            for taken in (getattr(errors, name), errors.ShoreError, ValueError):
                with self.subTest(name=name, taken=taken), self.assertRaises(taken):
                    raise getattr(errors, name)("words")

    def test_barred_has_its_three(self):
        with self.assertRaises(errors.ShoreError) as caught:
            raise errors.Barred(("ash", "bo", "elm"))
        self.assertEqual(caught.exception.three, ("ash", "bo", "elm"))

    def test_not_beside_has_its_at(self):
        with self.assertRaises(errors.ShoreError) as caught:
            raise errors.NotBeside(3)
        self.assertEqual(caught.exception.at, 3)


if __name__ == "__main__":
    unittest.main()
