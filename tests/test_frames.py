import unittest

from helpers import NO_NAMES, NO_POINTS, NO_RATIOS, bars, check_error, check_fresh, joints, point, q, triangle
from standframes.errors import NotFlat, OutOfBounds, RepeatedName, UnknownName, WrongKind, ZeroBar
from standframes.frames import Frame, is_name
from standframes.loads import Load


def many_joints(number):
    return [(f"j{k}", q(k), q(k * k)) for k in range(number)]


def many_bars(number):
    """Bars between the joints of many_joints(12)."""
    pairs = [(f"j{k}", f"j{i}") for k in range(12) for i in range(k)]
    return [(f"b{k}", one, other, "rod") for k, (one, other) in enumerate(pairs[:number])]


class TestNames(unittest.TestCase):
    def test_is_name(self):
        for value in ["a", "z", "a0", "z9", "abcdefgh", "a1234567", "fixed", "m5n"]:
            self.assertIs(is_name(value), True)
        for value in NO_NAMES + [triangle(), NotFlat("a")]:
            self.assertIs(is_name(value), False)


class TestKinds(unittest.TestCase):
    def wrong(self, argument, *args, **more):
        check_error(self, WrongKind, {"argument": argument}, Frame, *args, **more)

    def test_joints(self):
        good = ("a", q(0), q(0))
        for value in [None, (), (good,), "a", {}, [None], [list(good)], [good[:2]], [(*good, q(0))], [("a", good)], 3]:
            self.wrong("joints", value, None, grounds=5)
        for name in NO_NAMES:
            self.wrong("joints", [good, (name, q(0), q(0))], [])
        for one in NO_RATIOS:
            self.wrong("joints", [("a", one, q(0))], [])
            self.wrong("joints", [("a", q(0), one)], [])

    def test_bars(self):
        given = joints(a=(0, 0), b=(1, 0))
        good = ("p", "a", "b", "rod")
        for value in [None, (), (good,), "p", {}, [None], [list(good)], [good[:3]], [(*good, "rod")], 3, [()]]:
            self.wrong("bars", given, value, grounds=5)
        for name in NO_NAMES:
            self.wrong("bars", given, [(name, "a", "b", "rod")])
            self.wrong("bars", given, [("p", name, "b", "rod")])
            self.wrong("bars", given, [("p", "a", name, "rod")])
        for role in [None, "", "Rod", "rods", "bar", 1, ["rod"], ("rod",), True, triangle()]:
            self.wrong("bars", given, [good, ("q", "a", "b", role)])

    def test_grounds(self):
        given = joints(a=(0, 0), b=(1, 0))
        for value in [(), "fixed", {}, 3, True, [None], [["a", "fixed"]], [("a",)], [("a", "fixed", "fixed")], ["a"]]:
            self.wrong("grounds", given, [], grounds=value)
        for name in NO_NAMES:
            self.wrong("grounds", given, [], grounds=[(name, "fixed")])
        for across in [*NO_POINTS, point(0, 0), "slide", "Fixed", ""]:
            if across != "fixed":
                self.wrong("grounds", given, [], grounds=[("a", "fixed"), ("b", across)])

    def test_kinds_come_first(self):
        twice = many_joints(13) + [("j0", q(0), q(0))]
        self.wrong("bars", twice, [("p",)], grounds=3)
        self.wrong("grounds", twice, many_bars(31), grounds=3)
        self.wrong("joints", [("a", q(0), 0)], [("p",)], grounds=3)


class TestBounds(unittest.TestCase):
    def test_class_values(self):
        self.assertEqual((Frame.MOST_JOINTS, Frame.MOST_BARS), (12, 30))
        self.assertEqual((triangle().MOST_JOINTS, triangle().MOST_BARS), (12, 30))

    def test_most(self):
        frame = Frame(many_joints(12), many_bars(30), grounds=[(f"j{k}", "fixed") for k in range(12)])
        self.assertEqual((len(frame.joints), len(frame.bars), len(frame.grounds)), (12, 30, 12))

    def test_too_many(self):
        check_error(self, OutOfBounds, {"argument": "joints"}, Frame, many_joints(13), [])
        check_error(self, OutOfBounds, {"argument": "joints"}, Frame, many_joints(13), many_bars(31))
        check_error(self, OutOfBounds, {"argument": "joints"}, Frame, many_joints(12) + many_joints(1), [])
        check_error(self, OutOfBounds, {"argument": "bars"}, Frame, many_joints(12), many_bars(31))
        check_error(self, OutOfBounds, {"argument": "bars"}, Frame, many_joints(2) * 2, many_bars(30) + many_bars(1))
        grounds = [(f"j{k}", "fixed") for k in range(12)] * 9
        check_error(self, RepeatedName, {"repeated": "j0"}, Frame, many_joints(12), [], grounds=grounds)
        grounds = [(f"j{k}", "fixed") for k in range(50)]
        check_error(self, UnknownName, {"unknown": "j12"}, Frame, many_joints(12), [], grounds=grounds)


class TestFaults(unittest.TestCase):
    def repeated(self, name, *args, **more):
        check_error(self, RepeatedName, {"repeated": name}, Frame, *args, **more)

    def unknown(self, name, *args, **more):
        check_error(self, UnknownName, {"unknown": name}, Frame, *args, **more)

    def zero(self, name, *args, **more):
        check_error(self, ZeroBar, {"subject": name}, Frame, *args, **more)

    def test_repeated(self):
        given = joints(a=(0, 0), b=(1, 0), c=(2, 0))
        again = given + [("b", q(5), q(5)), ("a", q(5), q(5))]
        bad = [("p", "a", "b", "rod"), ("p", "b", "c", "rod")]
        self.repeated("b", again, bad, grounds=[("c", "fixed"), ("c", "fixed")])
        self.repeated("p", given, bad, grounds=[("c", "fixed"), ("c", "fixed")])
        self.repeated("c", given, bad[:1], grounds=[("x", "fixed"), ("c", "fixed"), ("c", point(1, 0))])
        # The joints of a bar are looked at before the name of the next bar.
        self.repeated("r", given, [*bad[:1], ("r", "b", "a", "tie"), ("p", "b", "c", "rod")])
        self.repeated("p", given, [*bad, ("r", "b", "a", "tie")])
        self.repeated("r", given, [*bad[:1], ("r", "a", "b", "rod")])
        self.repeated("p", given, [*bad[:1], ("p", "a", "b", "rod")])

    def test_repeated_names_need_not_be_known(self):
        self.repeated("q", [], [("p", "x", "y", "rod"), ("q", "y", "x", "rod")])
        self.repeated("q", [], [("p", "x", "x", "rod"), ("q", "x", "x", "rod")])
        self.repeated("x", [], [("p", "x", "y", "rod")], grounds=[("x", "fixed"), ("x", "fixed")])
        self.repeated("p", [], [("p", "x", "y", "rod"), ("p", "z", "y", "rod")])

    def test_names_may_be_shared(self):
        frame = Frame(joints(a=(0, 0), b=(1, 0)), [("a", "a", "b", "rod")], grounds=[("a", "fixed")])
        self.assertEqual(frame.ends("a"), ("a", "b"))
        self.assertEqual(frame.place("a"), point(0, 0))

    def test_unknown(self):
        given = joints(a=(0, 0), b=(0, 0), c=(2, 0))
        self.unknown("x", given, [("p", "a", "b", "rod"), ("q", "x", "y", "rod")], grounds=[("z", "fixed")])
        self.unknown("y", given, [("p", "c", "y", "rod"), ("q", "x", "c", "rod")], grounds=[("z", "fixed")])
        self.unknown("z", given, [("p", "a", "b", "rod")], grounds=[("a", "fixed"), ("z", "fixed"), ("y", "fixed")])
        self.unknown("p", given, [("p", "p", "p", "rod")])

    def test_zero_bar(self):
        given = joints(a=(0, 0), b=(0, 0), c=(2, 0))
        self.zero("q", given, [("p", "a", "c", "rod"), ("q", "b", "a", "rod"), ("r", "c", "c", "rod")])
        self.zero("r", given, [("p", "a", "c", "rod"), ("r", "c", "c", "rod"), ("q", "b", "a", "rod")])
        self.zero("q", [("a", q(1, 2), q(3)), ("b", q(1, 2), q(3))], [("q", "a", "b", "tie")])

    def test_rounds(self):
        given = joints(a=(0, 0), b=(0, 0), c=(2, 0))
        zero = ("p", "a", "b", "rod")
        self.unknown("x", given, [zero], grounds=[("x", "fixed")])
        self.repeated("a", given, [zero, ("q", "x", "y", "rod")], grounds=[("a", "fixed"), ("a", "fixed")])
        check_error(
            self, OutOfBounds, {"argument": "bars"}, Frame, given + given, [zero] * 31, grounds=[("x", "fixed")] * 2)

    def test_same_place_without_a_bar(self):
        frame = Frame(joints(a=(0, 0), b=(0, 0), c=(2, 0)), bars("ac", "cb"))
        self.assertEqual(frame.place("a"), frame.place("b"))


class TestFrame(unittest.TestCase):
    def setUp(self):
        self.places = [("b", q(1, 2), q(0)), ("a", q(0), q(-3)), ("c", q(4), q(4)), ("d", q(4), q(4))]
        self.lines = [("z", "b", "a", "tie"), ("m", "c", "a", "prop"), ("k", "b", "c", "rod")]
        self.held = [("c", (q(2), q(0))), ("a", "fixed"), ("d", (q(-1, 3), q(5)))]
        self.frame = Frame(self.places, self.lines, grounds=self.held)

    def test_lists(self):
        self.assertEqual(self.frame.joints, self.places)
        self.assertEqual(self.frame.bars, self.lines)
        self.assertEqual(self.frame.grounds, self.held)
        empty = Frame([], [])
        self.assertEqual((empty.joints, empty.bars, empty.grounds), ([], [], []))

    def test_questions(self):
        frame = self.frame
        self.assertEqual(frame.place("b"), (q(1, 2), q(0)))
        self.assertEqual([frame.across(name) for name in "abcd"], ["fixed", None, (q(2), q(0)), (q(-1, 3), q(5))])
        self.assertEqual(frame.ends("m"), ("c", "a"))
        self.assertEqual([frame.role(name) for name in "zmk"], ["tie", "prop", "rod"])
        self.assertEqual(frame.span("z"), (q(-1, 2), q(-3)))
        self.assertEqual(frame.span("m"), point(-4, -7))
        self.assertEqual(frame.squared("z"), q(37, 4))
        self.assertEqual(frame.squared("m"), q(65))
        self.assertEqual([frame.bars_at(name) for name in "abcd"], [["z", "m"], ["z", "k"], ["m", "k"], []])
        self.assertEqual(frame.bar_between("a", "b"), "z")
        self.assertEqual(frame.bar_between("b", "a"), "z")
        self.assertEqual(frame.bar_between("b", "c"), "k")
        self.assertIsNone(frame.bar_between("c", "d"))
        self.assertIsNone(frame.bar_between("a", "a"))

    def test_contains(self):
        self.assertIs("a" in self.frame, True)
        self.assertIs("z" in self.frame, False)
        self.assertIs("e" in self.frame, False)
        for value in [*NO_NAMES, self.frame, ("a", q(0), q(-3)), Load([])]:
            self.assertIs(value in self.frame, False)

    def test_wrong_names(self):
        for value in NO_NAMES:
            for call in (self.frame.place, self.frame.across, self.frame.bars_at):
                check_error(self, WrongKind, {"argument": "joint"}, call, value)
            for call in (self.frame.ends, self.frame.role, self.frame.span, self.frame.squared):
                check_error(self, WrongKind, {"argument": "bar"}, call, value)
            check_error(self, WrongKind, {"argument": "one"}, self.frame.bar_between, value, value)
            check_error(self, WrongKind, {"argument": "one"}, self.frame.bar_between, value, "x")
            check_error(self, WrongKind, {"argument": "other"}, self.frame.bar_between, "a", value)
            check_error(self, WrongKind, {"argument": "other"}, self.frame.bar_between, "x", value)

    def test_unknown_names(self):
        for name in ("z", "x", "aa"):
            for call in (self.frame.place, self.frame.across, self.frame.bars_at):
                check_error(self, UnknownName, {"unknown": name}, call, name)
        for name in ("a", "x"):
            for call in (self.frame.ends, self.frame.role, self.frame.span, self.frame.squared):
                check_error(self, UnknownName, {"unknown": name}, call, name)
        check_error(self, UnknownName, {"unknown": "x"}, self.frame.bar_between, "x", "y")
        check_error(self, UnknownName, {"unknown": "y"}, self.frame.bar_between, "a", "y")
        check_error(self, UnknownName, {"unknown": "x"}, self.frame.bar_between, "x", "x")

    def test_equal(self):
        self.assertTrue(self.frame == Frame(list(self.places), list(self.lines), grounds=list(self.held)))
        self.assertFalse(self.frame != Frame(list(self.places), list(self.lines), grounds=list(self.held)))
        others = [
            Frame(self.places[1:2] + self.places[:1] + self.places[2:], self.lines, grounds=self.held),
            Frame(self.places, self.lines[::-1], grounds=self.held),
            Frame(self.places, self.lines, grounds=self.held[::-1]),
            Frame(self.places, self.lines),
            Frame(self.places, self.lines[:2], grounds=self.held),
            Frame(self.places, [("z", "a", "b", "tie"), *self.lines[1:]], grounds=self.held),
            Frame(self.places, [("z", "b", "a", "rod"), *self.lines[1:]], grounds=self.held),
            Frame(self.places, [("y", "b", "a", "tie"), *self.lines[1:]], grounds=self.held),
            Frame(self.places, self.lines, grounds=[("c", (q(1), q(0))), *self.held[1:]]),
            Frame(self.places, self.lines, grounds=[("c", "fixed"), *self.held[1:]]),
            Frame([("b", q(1, 3), q(0)), *self.places[1:]], self.lines, grounds=self.held),
        ]
        for other in others + [None, "frame", 3, [], self.places, Load([]), (self.places, self.lines, self.held)]:
            self.assertIs(self.frame == other, False)
            self.assertIs(self.frame != other, True)
        self.assertTrue(Frame([], []) == Frame([], [], grounds=[]) == Frame([], [], grounds=None))
        self.assertFalse(Frame([], []) == Load([]))

    def test_copies(self):
        twin = Frame(self.places, self.lines, grounds=self.held)
        for given in (self.places, self.lines, self.held):
            given.clear()
        self.assertEqual(self.frame, twin)
        self.assertEqual(len(self.frame.joints), 4)
        self.assertEqual(self.frame.place("c"), point(4, 4))
        for read in (lambda: self.frame.joints, lambda: self.frame.bars, lambda: self.frame.grounds,
                     lambda: self.frame.bars_at("a")):
            check_fresh(self, read)
        self.assertEqual(self.frame, twin)
        self.assertEqual(self.frame.across("c"), (q(2), q(0)))
        self.assertEqual(self.frame.bars_at("c"), ["m", "k"])
