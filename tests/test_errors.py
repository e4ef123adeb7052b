"""0.3: the error classes, and what they keep."""

import unittest

from lastdoors import errors
from tests.helpers import odd_things

WITHOUT = [
    "NoStep", "NoDoor", "NoHouse", "NoDoors", "NoNumber", "NoLoad", "NoMoves", "NoPrices", "NoGap", "NoTable",
    "NoEnds", "NoCup", "NoForest", "NoWeights", "NoNest", "NotFixed", "NoCounts", "NoDiaries", "NoOrder",
    "NoNumbers", "NoGrain", "NothingDone", "NoChances", "NoRounds", "NoLine",
]
WITH_ONE = [("TooMany", "most"), ("BadText", "line"), ("NoName", "name")]


class ErrorsTest(unittest.TestCase):

    def test_what_they_derive_from(self):
        self.assertEqual(errors.DoorError.__bases__, (ValueError,))
        for name in WITHOUT + ["BadWeb"] + [name for name, _ in WITH_ONE]:
            self.assertEqual(getattr(errors, name).__bases__, (errors.DoorError,), name)

    def test_none_is_missing_and_none_is_more(self):
        own = [name for name, thing in vars(errors).items() if isinstance(thing, type)]
        listed = WITHOUT + ["BadWeb", "DoorError"] + [name for name, _ in WITH_ONE]
        self.assertEqual(sorted(own), sorted(listed))

    def test_they_keep_whatever_is_passed(self):
        for thing in odd_things():
            for name, field in WITH_ONE:
                error = getattr(errors, name)(thing)
                self.assertIs(getattr(error, field), thing)
            error = errors.BadWeb(thing, [thing])
            self.assertIs(error.part, thing)
            self.assertIs(error.at[0], thing)

    def test_they_are_made_with_just_their_fields(self):
        for name in WITHOUT:
            self.assertIsInstance(getattr(errors, name)(), ValueError)
            with self.assertRaises(TypeError):
                getattr(errors, name)(1)
        for name, _ in WITH_ONE:
            with self.assertRaises(TypeError):
                getattr(errors, name)()
        with self.assertRaises(TypeError):
            errors.BadWeb("cups")


if __name__ == "__main__":
    unittest.main()
