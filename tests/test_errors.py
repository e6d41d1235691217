import unittest

from standframes import errors
from standframes.errors import (
    BadText, FrameError, NegativeRoot, OutOfBounds, RepeatedName, UnfitError, UnknownName, Unsafe, WrongKind,
)

UNFIT = [
    "ZeroDivisor", "NegativeRoot", "ZeroBar", "FlatMap", "BadSteps", "NotOneWay", "NotHeld", "NotFlat", "NotCover",
    "NotOwnStress", "NotPicture", "NotLift", "NoReciprocal", "NotMotion", "NotAlike", "NotCrank", "NothingToUndo",
    "NothingToRedo",
]
VALUES = ["frame", "", 7, -3, (-1, 2), (10 ** 9000, 1), None]


class TestErrors(unittest.TestCase):
    def test_bases(self):
        self.assertEqual(FrameError.__bases__, (ValueError,))
        for one in (WrongKind, OutOfBounds, RepeatedName, UnknownName, UnfitError, Unsafe, BadText):
            self.assertEqual(one.__bases__, (FrameError,))
        for name in UNFIT:
            self.assertEqual(getattr(errors, name).__bases__, (UnfitError,), name)

    def test_one_attribute(self):
        told = {WrongKind: "argument", OutOfBounds: "argument", RepeatedName: "repeated", UnknownName: "unknown"}
        for one, name in told.items():
            for value in VALUES:
                error = one(value)
                self.assertEqual(getattr(error, name), value)
                self.assertEqual(vars(error), {name: value})
                self.assertIsInstance(str(error), str)
                self.assertIsInstance(repr(error), str)

    def test_subject(self):
        for one in [UnfitError] + [getattr(errors, name) for name in UNFIT]:
            self.assertIsNone(one().subject)
            for value in VALUES:
                error = one(value)
                self.assertEqual(error.subject, value)
                self.assertEqual(vars(error), {"subject": value})
                self.assertIsInstance(str(error), str)

    def test_classes_differ(self):
        self.assertEqual(len({getattr(errors, name) for name in UNFIT}), 18)

    def test_unsafe_keeps_a_copy(self):
        given = [("a", (1, 1), (0, 1))]
        error = Unsafe(given)
        self.assertEqual(error.velocities, given)
        given.append(("b", (1, 1), (0, 1)))
        self.assertEqual(error.velocities, [("a", (1, 1), (0, 1))])
        self.assertIs(error.velocities, error.velocities)
        self.assertEqual(Unsafe([]).velocities, [])

    def test_bad_text(self):
        error = BadText(3, 14, "spacing")
        self.assertEqual((error.line, error.column, error.fault), (3, 14, "spacing"))
        error = BadText(None, (1, 2), 5)
        self.assertEqual((error.line, error.column, error.fault), (None, (1, 2), 5))

    def test_caught_as_the_bases(self):
        with self.assertRaises(ValueError):
            raise WrongKind("frame")
        with self.assertRaises(FrameError):
            raise Unsafe([])
        with self.assertRaises(UnfitError):
            raise NegativeRoot((-1, 1))
