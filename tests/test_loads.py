import unittest
from fractions import Fraction

from helpers import (
    NO_NAMES, NO_RATIOS, bars, check_error, check_fresh, forces, fraction, joints, point, q, triangle,
)
from standframes.errors import OutOfBounds, RepeatedName, UnknownName, WrongKind
from standframes.frames import Frame
from standframes.loads import Load, pair_load, power, pull_load, resultant

NO_LISTS_OF_FORCES = [
    None, (), 3, "a", {}, [None], [["a", q(1), q(1)]], [("a", q(1))], [("a", q(1), q(1), q(1))], [("a", (q(1), q(1)))],
    (("a", q(1), q(1)),), True, [()],
]
NO_FRAMES = [None, 1, "frame", [], (), {}, Load([]), True]


class TestLoad(unittest.TestCase):
    def test_entries(self):
        load = Load(forces(c=(1, 2), a=(0, 0), b=(0, -1)))
        self.assertEqual(load.entries, [("b", q(0), q(-1)), ("c", q(1), q(2))])
        self.assertEqual(Load([]).entries, [])
        self.assertEqual(Load(forces(a=(0, 3))).entries, [("a", q(0), q(3))])
        self.assertEqual(Load(forces(a=(3, 0))).entries, [("a", q(3), q(0))])

    def test_order_of_names_as_strings(self):
        given = [(name, q(1), q(1)) for name in ["b", "a9", "a10", "a", "aa", "z", "ab1"]]
        self.assertEqual([row[0] for row in Load(given).entries], ["a", "a10", "a9", "aa", "ab1", "b", "z"])

    def test_sums(self):
        load = Load([("a", q(1, 2), q(1)), ("b", q(1), q(1)), ("a", q(1, 2), q(-3)), ("b", q(-1), q(-1))])
        self.assertEqual(load.entries, [("a", q(1), q(-2))])
        self.assertEqual(Load([("a", q(1), q(0)), ("a", q(-1), q(0)), ("a", q(2), q(0))]).entries, [("a", q(2), q(0))])

    def test_bounds(self):
        given = [(f"j{k}", q(1), q(0)) for k in range(24)]
        self.assertEqual(Load(given).count(), 24)
        check_error(self, OutOfBounds, {"argument": "forces"}, Load, given + given[:1])
        check_error(self, OutOfBounds, {"argument": "forces"}, Load, [("a", q(0), q(0))] * 25)
        self.assertEqual(Load([("a", q(1), q(0))] * 24).entries, [("a", q(24), q(0))])
        check_error(self, WrongKind, {"argument": "forces"}, Load, given + [("a", 1, q(0))])

    def test_wrong_kinds(self):
        for value in NO_LISTS_OF_FORCES:
            check_error(self, WrongKind, {"argument": "forces"}, Load, value)
        for value in NO_NAMES:
            check_error(self, WrongKind, {"argument": "forces"}, Load, [("a", q(1), q(1)), (value, q(1), q(1))])
            check_error(self, WrongKind, {"argument": "joint"}, Load.single, value, None, 0)
            check_error(self, WrongKind, {"argument": "joint"}, Load([]).force, value)
        for value in NO_RATIOS:
            check_error(self, WrongKind, {"argument": "forces"}, Load, [("a", value, q(1))])
            check_error(self, WrongKind, {"argument": "forces"}, Load, [("a", q(1), value)])
            check_error(self, WrongKind, {"argument": "x"}, Load.single, "a", value, 0)
            check_error(self, WrongKind, {"argument": "y"}, Load.single, "a", q(1), value)

    def test_single(self):
        self.assertEqual(Load.single("q", q(1), q(-2)).entries, [("q", q(1), q(-2))])
        self.assertEqual(Load.single("q", q(0), q(0)).entries, [])

    def test_force_and_count(self):
        load = Load(forces(a=(1, 2), b=(0, 0), c=(3, 4)))
        self.assertEqual([load.force(name) for name in "abcd"], [point(1, 2), point(0, 0), point(3, 4), point(0, 0)])
        self.assertEqual(load.count(), 2)
        self.assertEqual(Load([]).count(), 0)

    def test_iteration(self):
        load = Load(forces(c=(1, 2), b=(0, -1)))
        self.assertEqual(list(load), load.entries)
        self.assertEqual([row for row in load], [("b", q(0), q(-1)), ("c", q(1), q(2))])
        self.assertEqual([(one, other) for one in load for other in load][1], (load.entries[0], load.entries[1]))
        self.assertEqual(list(Load([])), [])

    def test_copies(self):
        given = forces(a=(1, 2))
        load = Load(given)
        given[0] = ("b", q(1), q(1))
        given.append(("c", q(1), q(1)))
        load.entries.clear()
        list(load).clear()
        self.assertEqual(load.entries, forces(a=(1, 2)))
        check_fresh(self, lambda: load.entries)
        self.assertEqual(load.count(), 1)


class TestOperators(unittest.TestCase):
    def setUp(self):
        self.one = Load(forces(a=(1, 2), c=(3, 4)))
        self.other = Load(forces(b=(5, 6), c=(-3, -4), a=(1, 0)))

    def test_values(self):
        one, other = self.one, self.other
        self.assertEqual((one + other).entries, forces(a=(2, 2), b=(5, 6)))
        self.assertEqual((one - other).entries, forces(a=(0, 2), b=(-5, -6), c=(6, 8)))
        self.assertEqual((-one).entries, forces(a=(-1, -2), c=(-3, -4)))
        self.assertEqual((one * q(-1, 2)).entries, [("a", q(-1, 2), q(-1)), ("c", q(-3, 2), q(-2))])
        self.assertEqual((one * q(0)).entries, [])
        self.assertEqual((one - one).entries, [])
        self.assertEqual((-Load([])).entries, [])
        for result in (one + other, one - other, -one, one * q(2)):
            self.assertIs(result.__class__, Load)
        self.assertEqual(one.entries, forces(a=(1, 2), c=(3, 4)))
        self.assertEqual(other.entries, forces(a=(1, 0), b=(5, 6), c=(-3, -4)))

    def test_more_than_24_entries(self):
        low = Load([(f"a{k}", q(1), q(k)) for k in range(24)])
        high = Load([(f"b{k}", q(2), q(k)) for k in range(24)])
        both = low + high
        self.assertEqual(both.count(), 48)
        self.assertEqual((both + both).force("b3"), point(4, 6))
        self.assertEqual((-both).count(), 48)
        self.assertEqual((both * q(3)).force("a2"), point(3, 6))
        self.assertEqual((low - high).count(), 48)
        self.assertEqual((both - high), low)

    def test_wrong_operands(self):
        for value in [None, 1, True, "a", [], self.one.entries, q(1), point(1, 2), triangle(), {}]:
            check_error(self, WrongKind, {"argument": "other"}, lambda: self.one + value)
            check_error(self, WrongKind, {"argument": "other"}, lambda: self.one - value)
        for value in NO_RATIOS + [self.one, point(1, 2)]:
            check_error(self, WrongKind, {"argument": "other"}, lambda: self.one * value)

    def test_equal(self):
        one = self.one
        same = Load([("c", q(3), q(0)), ("a", q(1), q(2)), ("c", q(0), q(4)), ("d", q(0), q(0))])
        self.assertIs(one == same, True)
        self.assertIs(one != same, False)
        for value in [self.other, Load([]), None, one.entries, 3, "a", triangle(), one * q(2), Load(forces(a=(1, 2)))]:
            self.assertIs(one == value, False)
            self.assertIs(one != value, True)
        self.assertTrue(Load([]) == Load(forces(a=(0, 0))))


class TestPower(unittest.TestCase):
    def test_values(self):
        load = Load(forces(a=(1, 2), c=(3, 4)))
        self.assertEqual(power(load, forces(c=(1, -1), b=(7, 7), a=(5, 1))), q(6))
        self.assertEqual(power(load, [("a", q(1, 2), q(0)), ("c", q(0), q(1, 3))]), q(Fraction(1, 2) + Fraction(4, 3)))
        self.assertEqual(power(Load([]), []), q(0))
        self.assertEqual(power(Load([]), forces(a=(5, 1))), q(0))

    def test_errors(self):
        load = Load(forces(b=(1, 2), a=(3, 4), c=(5, 6)))
        for value in [None, 3, [], triangle()]:
            check_error(self, WrongKind, {"argument": "load"}, power, value, None)
        for value in NO_LISTS_OF_FORCES:
            check_error(self, WrongKind, {"argument": "velocities"}, power, load, value)
        for value in NO_NAMES:
            check_error(self, WrongKind, {"argument": "velocities"}, power, load, [(value, q(1), q(1))])
        for value in NO_RATIOS:
            check_error(self, WrongKind, {"argument": "velocities"}, power, load, [("a", q(1), value)])
        many = forces(x=(0, 0), b=(1, 1))
        check_error(self, RepeatedName, {"repeated": "x"}, power, load, many + forces(x=(0, 0), b=(0, 0)))
        check_error(self, RepeatedName, {"repeated": "b"}, power, load, many + forces(b=(0, 0), x=(0, 0)))
        check_error(self, UnknownName, {"unknown": "a"}, power, load, many)
        check_error(self, UnknownName, {"unknown": "c"}, power, load, many + forces(a=(0, 0)))
        self.assertEqual(power(load, [(f"j{k}", q(1), q(1)) for k in range(40)] + forces(a=(0, 0), b=(1, 0), c=(1, 0))),
                         q(6))


class TestResultant(unittest.TestCase):
    def test_values(self):
        frame = triangle()
        self.assertEqual(resultant(frame, Load([])), (q(0), q(0), q(0)))
        self.assertEqual(resultant(frame, Load(forces(b=(1, 2)))), (q(1), q(2), q(8)))
        self.assertEqual(resultant(frame, Load(forces(c=(1, 2)))), (q(1), q(2), q(-3)))
        self.assertEqual(resultant(frame, Load(forces(a=(7, -1), b=(1, 2), c=(1, 2)))), (q(9), q(3), q(5)))
        self.assertIsInstance(resultant(frame, Load([])), tuple)

    def test_errors(self):
        frame = triangle()
        for value in NO_FRAMES:
            check_error(self, WrongKind, {"argument": "frame"}, resultant, value, None)
        for value in [None, 3, [], frame, forces(a=(1, 1))]:
            check_error(self, WrongKind, {"argument": "load"}, resultant, frame, value)
        load = Load(forces(y=(1, 1), x=(1, 1), a=(1, 1)))
        check_error(self, UnknownName, {"unknown": "x"}, resultant, frame, load)
        self.assertEqual(resultant(frame, Load(forces(x=(0, 0)))), (q(0), q(0), q(0)))


class TestPairLoad(unittest.TestCase):
    def test_values(self):
        frame = Frame(joints(a=(1, 5), b=(4, 3), c=(4, 3)), [])
        self.assertEqual(pair_load(frame, "a", "b").entries, forces(a=(-3, 2), b=(3, -2)))
        self.assertEqual(pair_load(frame, "b", "a").entries, forces(a=(-3, 2), b=(3, -2)))
        self.assertEqual(pair_load(frame, "b", "c"), Load([]))
        self.assertEqual(pair_load(frame, "a", "a"), Load([]))

    def test_errors(self):
        frame = triangle()
        for value in NO_FRAMES:
            check_error(self, WrongKind, {"argument": "frame"}, pair_load, value, None, None)
        for value in NO_NAMES:
            check_error(self, WrongKind, {"argument": "one"}, pair_load, frame, value, value)
            check_error(self, WrongKind, {"argument": "other"}, pair_load, frame, "x", value)
        check_error(self, UnknownName, {"unknown": "x"}, pair_load, frame, "x", "y")
        check_error(self, UnknownName, {"unknown": "y"}, pair_load, frame, "a", "y")
        check_error(self, UnknownName, {"unknown": "ab"}, pair_load, frame, "ab", "ab")


class TestPullLoad(unittest.TestCase):
    def test_values(self):
        frame = triangle(grounds=[("a", "fixed")])
        self.assertEqual(pull_load(frame, [("ab", q(1)), ("bc", q(0)), ("ca", q(0))]).entries,
                         forces(a=(4, 0), b=(-4, 0)))
        self.assertEqual(pull_load(frame, [("ab", q(-1, 2)), ("bc", q(1)), ("ca", q(2))]).entries,
                         forces(a=(-2, 6), b=(-2, 3), c=(4, -9)))
        self.assertEqual(pull_load(frame, [("ab", q(0)), ("bc", q(0)), ("ca", q(0))]), Load([]))
        self.assertEqual(pull_load(Frame([], []), []), Load([]))

    def test_more_bars_than_forces_of_a_load(self):
        places = [(f"j{k}", q(k), q(k * k)) for k in range(12)]
        lines = [(f"b{k}", f"j{k % 12}", f"j{(k + 1 + k // 12) % 12}", "rod") for k in range(30)]
        frame = Frame(places, lines)
        load = pull_load(frame, [(row[0], q(1)) for row in lines])
        sums = [0, 0]
        for _, x, y in load:
            sums = [sums[0] + fraction(x), sums[1] + fraction(y)]
        self.assertEqual(sums, [0, 0])

    def test_errors(self):
        frame = Frame(joints(a=(0, 0), b=(4, 0), c=(0, 3)), bars("ab", "bc"))
        for value in NO_FRAMES:
            check_error(self, WrongKind, {"argument": "frame"}, pull_load, value, None)
        good = [("ab", q(1)), ("bc", q(2))]
        bad = [
            None, tuple(good), good[:1], good + [("ca", q(0))], good[::-1], [list(row) for row in good], [],
            [("ab", q(1)), ("ab", q(2))], [("ab", q(1)), ("bc", (2, 4))], [("ab", q(1)), ("bc", 2)], {},
            [("ab", q(1)), ("bc", q(2), q(3))], [("ab", q(1)), ("bc",)], [("ab", q(1)), None], good + good, "ab",
            [("ab", q(1)), (True, q(2))], [("ab", q(1)), (["bc"], q(2))], [("ab", q(1)), (frame, q(2))],
        ]
        for value in bad:
            check_error(self, WrongKind, {"argument": "pulls"}, pull_load, frame, value)
        for value in NO_RATIOS:
            check_error(self, WrongKind, {"argument": "pulls"}, pull_load, frame, [("ab", value), ("bc", q(1))])
