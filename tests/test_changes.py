import unittest

from helpers import NO_NAMES, NO_POINTS, NO_RATIOS, check_error, forces, joints, point, q, qs, triangle
from standframes import changes
from standframes.changes import (
    bare, mapped, mapped_load, moved, part, part_load, with_bar, with_ground, with_joint, without_bar, without_joint,
)
from standframes.errors import FlatMap, OutOfBounds, RepeatedName, UnknownName, WrongKind, ZeroBar
from standframes.frames import Frame
from standframes.loads import Load

NO_FRAMES = [None, 1, "frame", [], (), {}, Load([]), True]
PLACES = joints(c=(0, 0), a=(4, 0), d=(4, 4), b=(0, 4), e=(0, 4))
LINES = [("m", "a", "c", "tie"), ("k", "d", "a", "prop"), ("p", "b", "d", "rod"), ("q", "c", "d", "rod")]
HELD = [("b", point(3, 0)), ("c", "fixed"), ("d", point(1, 1))]


def frame():
    return Frame(PLACES, LINES, grounds=HELD)


def matrix(*numbers):
    return tuple(qs(*numbers))


class TestParts(unittest.TestCase):
    def test_bare(self):
        self.assertEqual(bare(frame()), Frame(PLACES, LINES))
        self.assertEqual(bare(Frame([], [])), Frame([], []))

    def test_part(self):
        due = Frame(joints(c=(0, 0), a=(4, 0), d=(4, 4)), [LINES[0], LINES[1], LINES[3]], grounds=HELD[1:])
        for order in (["a", "c", "d"], ["d", "c", "a"], ["c", "d", "a"]):
            self.assertEqual(part(frame(), order), due)
        self.assertEqual(part(frame(), []), Frame([], []))
        self.assertEqual(part(frame(), ["e", "d", "c", "b", "a"]), frame())
        self.assertEqual(part(frame(), ["b", "c"]), Frame(joints(c=(0, 0), b=(0, 4)), [], grounds=HELD[:2]))
        self.assertEqual(part(frame(), ["e"]), Frame(joints(e=(0, 4)), []))

    def test_part_errors(self):
        for value in [None, "a", ("a",), {}, 3, ["a", 1], [["a"]], [None]] + [["x", "x", name] for name in NO_NAMES]:
            check_error(self, WrongKind, {"argument": "joints"}, part, frame(), value)
        check_error(self, RepeatedName, {"repeated": "y"}, part, frame(), ["x", "y", "a", "y", "a"])
        check_error(self, UnknownName, {"unknown": "m"}, part, frame(), ["a", "m", "x"])

    def test_part_load(self):
        load = Load(forces(a=(1, 2), c=(3, 4), x=(5, 6)))
        self.assertEqual(part_load(load, ["x", "q", "a"]).entries, forces(a=(1, 2), x=(5, 6)))
        self.assertEqual(part_load(load, []), Load([]))
        self.assertEqual(part_load(load, [f"j{k}" for k in range(99)]), Load([]))
        self.assertEqual(part_load(load, ["c", "a", "x"]), load)
        low = Load([(f"a{k}", q(1), q(k)) for k in range(24)])
        both = low + Load([(f"b{k}", q(1), q(k)) for k in range(24)])
        self.assertEqual(part_load(both, [row[0] for row in both if row[0] != "b5"]).count(), 47)

    def test_part_load_errors(self):
        for value in [None, 3, [], frame(), forces(a=(1, 2))]:
            check_error(self, WrongKind, {"argument": "load"}, part_load, value, None)
        for value in [None, "a", ("a",), {}, [1]] + [["x", "x", name] for name in NO_NAMES]:
            check_error(self, WrongKind, {"argument": "joints"}, part_load, Load([]), value)
        check_error(self, RepeatedName, {"repeated": "y"}, part_load, Load([]), ["x", "y", "y", "x"])


class TestWith(unittest.TestCase):
    def test_with_joint(self):
        self.assertEqual(
            with_joint(frame(), "m", q(1, 2), q(-1)), Frame([*PLACES, ("m", q(1, 2), q(-1))], LINES, grounds=HELD))
        self.assertEqual(with_joint(Frame([], []), "z", q(0), q(0)), Frame(joints(z=(0, 0)), []))

    def test_with_joint_errors(self):
        full = Frame([(f"j{k}", q(k), q(0)) for k in range(12)], [])
        for name in NO_NAMES:
            check_error(self, WrongKind, {"argument": "joint"}, with_joint, full, name, 1, 1)
        for value in NO_RATIOS:
            check_error(self, WrongKind, {"argument": "x"}, with_joint, full, "j0", value, 1)
            check_error(self, WrongKind, {"argument": "y"}, with_joint, full, "j0", q(1), value)
        check_error(self, OutOfBounds, {"argument": "frame"}, with_joint, full, "j0", q(1), q(1))
        check_error(self, OutOfBounds, {"argument": "frame"}, with_joint, full, "new", q(1), q(1))
        check_error(self, RepeatedName, {"repeated": "d"}, with_joint, frame(), "d", q(1), q(1))
        eleven = Frame([(f"j{k}", q(k), q(0)) for k in range(11)], [])
        self.assertEqual(len(with_joint(eleven, "new", q(1), q(1)).joints), 12)

    def test_with_bar(self):
        self.assertEqual(
            with_bar(frame(), "a", "b", "a"), Frame(PLACES, [*LINES, ("a", "b", "a", "rod")], grounds=HELD))
        for role in ("rod", "tie", "prop"):
            self.assertEqual(with_bar(frame(), "x", "a", "e", role=role).bars[-1], ("x", "a", "e", role))

    def test_with_bar_errors(self):
        for name in NO_NAMES:
            check_error(self, WrongKind, {"argument": "bar"}, with_bar, frame(), name, 1, 1, role=1)
            check_error(self, WrongKind, {"argument": "one"}, with_bar, frame(), "m", name, 1, role=1)
            check_error(self, WrongKind, {"argument": "other"}, with_bar, frame(), "m", "x", name, role=1)
        for role in [None, "", "Rod", 1, ["rod"], "fixed", True, frame()]:
            check_error(self, WrongKind, {"argument": "role"}, with_bar, frame(), "m", "x", "y", role=role)
        check_error(self, RepeatedName, {"repeated": "m"}, with_bar, frame(), "m", "x", "y")
        check_error(self, RepeatedName, {"repeated": "m"}, with_bar, frame(), "m", "e", "b")
        check_error(self, RepeatedName, {"repeated": "n"}, with_bar, frame(), "n", "a", "c")
        check_error(self, RepeatedName, {"repeated": "n"}, with_bar, frame(), "n", "c", "a", role="prop")
        check_error(self, UnknownName, {"unknown": "x"}, with_bar, frame(), "n", "x", "y")
        check_error(self, UnknownName, {"unknown": "y"}, with_bar, frame(), "n", "a", "y")
        check_error(self, UnknownName, {"unknown": "x"}, with_bar, frame(), "n", "x", "x")
        check_error(self, ZeroBar, {"subject": "n"}, with_bar, frame(), "n", "e", "b")
        check_error(self, ZeroBar, {"subject": "n"}, with_bar, frame(), "n", "a", "a")

    def test_with_bar_bounds(self):
        places = [(f"j{k}", q(k), q(k * k)) for k in range(12)]
        pairs = [(f"j{k}", f"j{i}") for k in range(12) for i in range(k)]
        lines = [(f"b{k}", one, other, "rod") for k, (one, other) in enumerate(pairs)]
        full = Frame(places, lines[:30])
        check_error(self, OutOfBounds, {"argument": "frame"}, with_bar, full, *lines[30][:3])
        check_error(self, OutOfBounds, {"argument": "frame"}, with_bar, full, "b0", "x", "x")
        check_error(self, WrongKind, {"argument": "role"}, with_bar, full, "b0", "x", "x", role=None)
        self.assertEqual(with_bar(Frame(places, lines[:29]), *lines[29][:3]), full)

    def test_with_ground(self):
        self.assertEqual(with_ground(frame(), "a", point(0, 7)).grounds,
                         [("c", "fixed"), ("a", point(0, 7)), ("d", point(1, 1)), ("b", point(3, 0))])
        self.assertEqual(with_ground(frame(), "b", "fixed").grounds,
                         [("c", "fixed"), ("d", point(1, 1)), ("b", "fixed")])
        self.assertEqual(with_ground(frame(), "b", None).grounds, [("c", "fixed"), ("d", point(1, 1))])
        # Nothing changes but the order.
        due = [("c", "fixed"), ("d", point(1, 1)), ("b", point(3, 0))]
        self.assertEqual(with_ground(frame(), "e", None).grounds, due)
        self.assertEqual(with_ground(frame(), "c", "fixed"), Frame(PLACES, LINES, grounds=due))

    def test_with_ground_errors(self):
        for name in NO_NAMES:
            check_error(self, WrongKind, {"argument": "joint"}, with_ground, frame(), name, 1)
        for across in [value for value in NO_POINTS if value not in (None, "fixed")] + [point(0, 0), "none", "slide"]:
            check_error(self, WrongKind, {"argument": "across"}, with_ground, frame(), "x", across)
        check_error(self, UnknownName, {"unknown": "m"}, with_ground, frame(), "m", None)
        check_error(self, UnknownName, {"unknown": "x"}, with_ground, frame(), "x", "fixed")


class TestWithout(unittest.TestCase):
    def test_without_bar(self):
        self.assertEqual(without_bar(frame(), "k"), Frame(PLACES, [LINES[0], *LINES[2:]], grounds=HELD))

    def test_without_joint(self):
        self.assertEqual(without_joint(frame(), "d"),
                         Frame([row for row in PLACES if row[0] != "d"], LINES[:1], grounds=HELD[:2]))
        self.assertEqual(without_joint(frame(), "e"), Frame(PLACES[:4], LINES, grounds=HELD))
        self.assertEqual(without_joint(Frame(joints(a=(1, 1)), []), "a"), Frame([], []))

    def test_errors(self):
        for name in NO_NAMES:
            check_error(self, WrongKind, {"argument": "bar"}, without_bar, frame(), name)
            check_error(self, WrongKind, {"argument": "joint"}, without_joint, frame(), name)
        check_error(self, UnknownName, {"unknown": "a"}, without_bar, frame(), "a")
        check_error(self, UnknownName, {"unknown": "m"}, without_joint, frame(), "m")


class TestMoved(unittest.TestCase):
    def test_values(self):
        places = [("c", q(1), q(1)), ("a", q(1, 2), q(0)), ("d", q(0), q(0)), ("b", q(3), q(3)), ("e", q(3), q(3))]
        self.assertEqual(moved(frame(), places), Frame(places, LINES, grounds=HELD))
        self.assertEqual(moved(Frame([], []), []), Frame([], []))

    def test_errors(self):
        good = list(PLACES)
        for value in [
            None, tuple(good), good[:-1], good + [("f", q(0), q(0))], good[::-1], good[:-1] + [("a", q(0), q(0))],
            good[:-1] + [["e", q(0), q(0)]], good[:-1] + [("e", q(0))], good[:-1] + [("e", q(0), q(0), q(0))],
            good[:-1] + [("e", q(0), (0, 2))], good[:-1] + [("e", 0, q(0))], good[:-1] + [None], good + good[-1:],
            good[:-1] + [("x", q(0), q(0))],
        ]:
            check_error(self, WrongKind, {"argument": "places"}, moved, frame(), value)
        flat = [(name, q(1), q(0)) for name, _, _ in PLACES]
        check_error(self, ZeroBar, {"subject": "m"}, moved, frame(), flat)
        check_error(self, ZeroBar, {"subject": "p"}, moved, frame(), PLACES[:3] + forces(b=(4, 4), e=(0, 0)))


class TestMapped(unittest.TestCase):
    def test_values(self):
        result = mapped(frame(), matrix(1, 2, 3, 4), shift=point(10, 20))
        self.assertEqual(result.joints, joints(c=(10, 20), a=(14, 32), d=(22, 48), b=(18, 36), e=(18, 36)))
        self.assertEqual(result.bars, LINES)
        self.assertEqual(result.grounds, [("b", point(3, 9)), ("c", "fixed"), ("d", point(3, 7))])
        self.assertEqual(mapped(frame(), matrix(1, 0, 0, 1)), frame())
        self.assertEqual(mapped(frame(), matrix(1, 0, 0, 1), shift=changes.ZERO), frame())
        self.assertEqual(changes.ZERO, ((0, 1), (0, 1)))

    def test_there_and_back(self):
        there = mapped(frame(), matrix(1, 2, 3, 4), shift=point(10, 20))
        back = mapped(there, (q(-2), q(1), q(3, 2), q(-1, 2)))
        self.assertEqual(mapped(back, matrix(1, 0, 0, 1), shift=point(0, -5)), frame())

    def test_mapped_load(self):
        load = Load(forces(a=(1, 2), z=(0, -1)))
        self.assertEqual(mapped_load(load, matrix(1, 2, 3, 4)).entries, forces(a=(5, 11), z=(-2, -4)))
        self.assertEqual(mapped_load(mapped_load(load, matrix(1, 2, 3, 4)), (q(-2), q(1), q(3, 2), q(-1, 2))), load)
        low = Load([(f"a{k}", q(1), q(k)) for k in range(24)])
        both = low + Load([(f"b{k}", q(1), q(k)) for k in range(24)])
        self.assertEqual(mapped_load(both, matrix(0, 1, 1, 0)).force("b7"), point(7, 1))

    def test_errors(self):
        good = matrix(1, 2, 3, 4)
        bad = [None, 1, list(good), good[:3], (*good, q(1)), (point(1, 2), point(3, 4)), (), "abcd", {}]
        bad += [(q(1), value, q(0), q(1)) for value in NO_RATIOS]
        bad += [(value, q(0), q(0), q(0)) for value in NO_RATIOS] + [(q(1), q(0), q(0), value) for value in NO_RATIOS]
        for value in bad:
            check_error(self, WrongKind, {"argument": "matrix"}, mapped, frame(), value, shift=None)
            check_error(self, WrongKind, {"argument": "matrix"}, mapped_load, Load([]), value)
        for value in [value for value in NO_POINTS]:
            check_error(self, WrongKind, {"argument": "shift"}, mapped, frame(), matrix(0, 0, 0, 0), shift=value)
        for value in [None, [], 1, frame()]:
            check_error(self, WrongKind, {"argument": "load"}, mapped_load, value, None)

    def test_flat_map(self):
        for flat in [matrix(0, 0, 0, 0), matrix(1, 2, 2, 4), matrix(1, 0, 1, 0), (q(1, 2), q(1), q(1), q(2))]:
            for one in (frame(), Frame([], []), Frame(joints(a=(0, 0)), [])):
                check_error(self, FlatMap, {"subject": None}, mapped, one, flat)
            check_error(self, FlatMap, {"subject": None}, mapped_load, Load([]), flat)
            check_error(self, FlatMap, {"subject": None}, mapped_load, Load(forces(a=(1, 0))), flat)
        self.assertEqual(mapped(Frame([], []), matrix(1, 2, 2, 5)), Frame([], []))


class TestFrames(unittest.TestCase):
    def test_wrong_kind_of_frame(self):
        for value in NO_FRAMES:
            for call, rest in [
                (bare, ()), (part, (None,)), (with_joint, (1, 1, 1)), (with_bar, (1, 1, 1)), (with_ground, (1, 1)),
                (without_bar, (1,)), (without_joint, (1,)), (moved, (1,)), (mapped, (1,)),
            ]:
                check_error(self, WrongKind, {"argument": "frame"}, call, value, *rest)

    def test_the_given_frame_stays(self):
        given = frame()
        bare(given)
        part(given, ["a"])
        with_joint(given, "x", q(0), q(0))
        with_bar(given, "x", "a", "e")
        with_ground(given, "a", "fixed")
        without_bar(given, "m")
        without_joint(given, "a")
        mapped(given, matrix(1, 2, 3, 4))
        self.assertEqual(given, frame())

    def test_order_of_the_arguments_by_name(self):
        check_error(self, WrongKind, {"argument": "bar"}, with_bar, role=1, other=1, one=1, bar=1, frame=triangle())
        check_error(self, WrongKind, {"argument": "x"}, with_joint, y=1, x=1, joint="a", frame=triangle())
