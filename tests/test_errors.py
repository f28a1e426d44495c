"""Promise 5: the errors."""

import inspect
import unittest

from sketches import junk
from threeexits import errors

PLAIN = ["NoPlace", "NoNames", "NoWalls", "NoLot", "NoSides", "NoFrame", "NoWeights", "NoDrawing", "NoPoint",
         "NoNumber", "OtherFrame", "NoMoment", "NoRoom", "NoSpot", "SameWall", "Full", "NoWall", "NotCut",
         "NotJoined", "NoPlaces", "NoDeed", "NothingDone", "NoText", "NoJournal"]
FIELDS = {"BadPlan": "part", "TooMany": "most", "Narrow": "lot", "NoGrowth": "index", "BadText": "line"}


class Errors(unittest.TestCase):
    def test_base_of_all(self):
        self.assertEqual(errors.StrokeError.__bases__, (ValueError,))
        self.assertIsInstance(errors.StrokeError(), ValueError)

    def test_names_are_just_these(self):
        found = [name for name, _ in inspect.getmembers(errors, inspect.isclass)]
        self.assertEqual(sorted(found), sorted(PLAIN + list(FIELDS) + ["StrokeError"]))

    def test_each_derives_from_the_base_alone(self):
        for name in PLAIN + list(FIELDS):
            with self.subTest(name):
                found = getattr(errors, name)
                self.assertEqual(found.__name__, name)
                self.assertEqual(found.__module__, "threeexits.errors")
                self.assertEqual(found.__bases__, (errors.StrokeError,))

    def test_without_fields(self):
        for name in PLAIN:
            with self.subTest(name), self.assertRaises(errors.StrokeError) as caught:
                raise getattr(errors, name)()
            self.assertEqual(vars(caught.exception), {})

    def test_fields_keep_whatever_they_get(self):
        for name, field in FIELDS.items():
            for worth in junk() + ["walls", 14, (0, 1), 10 ** 6000]:
                kept = getattr(errors, name)(worth)
                self.assertIs(getattr(kept, field), worth, name)
                self.assertEqual(list(vars(kept)), [field])

    def test_fields_take_one_argument(self):
        for name in FIELDS:
            with self.subTest(name):
                self.assertRaises(TypeError, getattr(errors, name))
                self.assertRaises(TypeError, getattr(errors, name), 1, 2)

    def test_a_list_within_an_error_is_not_copied(self):
        lot = [0]
        error = errors.Narrow(lot)
        lot.append(1)
        self.assertEqual(error.lot, [0, 1])


if __name__ == "__main__":
    unittest.main()
