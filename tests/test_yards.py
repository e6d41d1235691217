import copy
import random
import unittest

from helpers import (
    HUGE, NO_FRAMES, NO_LOADS, NO_NAMES, NO_RATIOS, check_error, check_fresh, forces, joints, point, q, triangle,
)
from reference import carried, check_grounds_kept, check_roles_kept, slow_power, slow_rates, some_frames
from standframes.errors import (
    FrameError, NothingToRedo, NothingToUndo, OutOfBounds, RepeatedName, UnknownName, Unsafe, WrongKind, ZeroBar,
)
from standframes.frames import Frame
from standframes.loads import Load
from standframes.motions import freedom
from standframes.oneway import hold
from standframes.yards import Yard, keeps

RULES = ("free", "carry", "hold", "stand")
NO_RULES = [None, 1, "", "Free", "carries", ["free"], ("free",), True, {}, "stands", triangle(), "free "]
ONE = (1, 1)
NO_DEEDS = [
    None, 1, True, "undo", (), [], {}, ("undo",), ("redo",), ("joint",), ("joint", "a"), ("joint", "a", ONE, ONE),
    ("joint", "a", ONE, ONE, None), ("joint", "a", ONE, ONE, None, []), ("joint", "a", ONE, ONE, "free", ()),
    ("joint", "a", ONE, ONE, ((0, 1), (0, 1)), ()), ("joint", "a", ONE, ONE, [ONE, ONE], ()),
    ("joint", "a", ONE, ONE, None, (), ()), ("joint", "a", ONE, ONE, None, None), ("joint", "a", 1, ONE, None, ()),
    ("joint", "a", ONE, ONE, None, (("b", "c"),)), ("joint", "a", ONE, ONE, None, (["b", "c", "rod"],)),
    ("joint", "a", ONE, ONE, None, (("b", "c", "Rod"),)), ("joint", "a", ONE, ONE, None, (("b", "c", "rod", 1),)),
    ("joint", "a", ONE, ONE, None, ("b", "c", "rod")), ("joint", "a", ONE, ONE, None, (None,)),
    ("joint", "a", ONE, ONE, "none", ()), ("joint", "a", ONE, ONE, True, ()), ["joint", "a", ONE, ONE, None, ()],
    ("bar", "n", "a", "b"), ("bar", "n", "a", "b", "Rod"), ("bar", "n", "a", "b", None),
    ("bar", "n", "a", "b", "rod", 1),
    ["bar", "n", "a", "b", "rod"], ("bar", "n", "a", 1, "rod"), ("bar", ("n", "a", "b", "rod")),
    ("ground", "a"), ("ground", "a", "free"), ("ground", "a", ((0, 1), (0, 1))), ("ground", "a", None, None),
    ("ground", "a", "none"), ("ground", "a", False), ("ground", "a", [ONE, ONE]), ("ground", "a", (1, 1)),
    ("load", "a", ONE), ("load", "a", ONE, ONE, ONE), ("load", "a", 1, 2), ("load", "a", (ONE, ONE)),
    ("cut",), ("cut", "a", "b"), ("cut", None), ["cut", "a"], ("drop",), ("drop", "a", "b"), ("drop", 1),
    ("Cut", "a"), (None, "a"), (1, 2), (("cut", "a"),), ([], "a"), triangle(), Load([]), ("cut", ["a"]), (True, "a"),
]


def setting(name, x, y, across=None, *links):
    return ("joint", name, q(x), q(y), across, links)


def base(rule="free"):
    """A yard with a standing triangle."""
    yard = Yard(rule=rule)
    yard.work(setting("a", 0, 0, "fixed"))
    yard.work(setting("b", 4, 0, "fixed", ("ab", "a", "rod")))
    yard.work(setting("c", 0, 3, None, ("ac", "a", "rod"), ("bc", "b", "tie")))
    return yard


def look(yard):
    """Everything that a yard tells."""
    return (yard.rule, yard.records, yard.frame, yard.load.entries, yard.count(), list(yard),
            [(frame, load.entries) for frame, load in map(yard.state, range(yard.count() + 1))])


def undone(yard):
    """The deeds that the yard can do again, in order."""
    twin = yard.twin()
    found = []
    while True:
        try:
            found.append(twin.redo())
        except NothingToRedo:
            return found


class TestDeeds(unittest.TestCase):
    def test_empty(self):
        yard = Yard()
        self.assertEqual(look(yard), ("free", [], Frame([], []), [], 0, [], [(Frame([], []), [])]))
        for rule in RULES:
            self.assertEqual(Yard(rule=rule).rule, rule)
        self.assertEqual(Yard.MOST_RECORDS, 40)

    def test_joints(self):
        yard = Yard()
        self.assertEqual(yard.work(setting("b", 1, 2)), 1)
        self.assertEqual(yard.work(setting("a", 0, 0, point(1, 0), ("x", "b", "tie"))), 2)
        self.assertEqual(yard.work(setting("c", 5, 5, "fixed", ("z", "a", "prop"), ("y", "b", "rod"))), 3)
        frame = Frame(joints(b=(1, 2), a=(0, 0), c=(5, 5)),
                      [("x", "a", "b", "tie"), ("z", "c", "a", "prop"), ("y", "c", "b", "rod")],
                      grounds=[("a", point(1, 0)), ("c", "fixed")])
        self.assertEqual(yard.frame, frame)
        self.assertEqual(yard.load, Load([]))

    def test_bars_and_cuts(self):
        yard = base()
        yard.work(("cut", "ab"))
        self.assertEqual(yard.frame.bars, [("ac", "c", "a", "rod"), ("bc", "c", "b", "tie")])
        yard.work(("bar", "ab", "b", "a", "prop"))
        self.assertEqual(yard.frame.bars, [("ac", "c", "a", "rod"), ("bc", "c", "b", "tie"), ("ab", "b", "a", "prop")])
        # A bar may have the name of a joint.
        yard.work(("cut", "ac"))
        self.assertEqual(yard.work(("bar", "a", "a", "c", "rod")), 7)
        self.assertEqual([row[0] for row in yard.frame.bars], ["bc", "ab", "a"])

    def test_grounds(self):
        yard = base()
        yard.work(("ground", "c", point(0, 2)))
        self.assertEqual(yard.frame.grounds, [("a", "fixed"), ("b", "fixed"), ("c", point(0, 2))])
        yard.work(("ground", "a", None))
        self.assertEqual(yard.frame.grounds, [("b", "fixed"), ("c", point(0, 2))])
        yard.work(("ground", "a", point(1, 1)))
        self.assertEqual(yard.frame.grounds, [("a", point(1, 1)), ("b", "fixed"), ("c", point(0, 2))])
        yard.work(("ground", "b", point(1, 0)))
        self.assertEqual(yard.frame.grounds, [("a", point(1, 1)), ("b", point(1, 0)), ("c", point(0, 2))])
        # A deed that changes nothing is done like any other.
        before = yard.frame
        self.assertEqual(yard.work(("ground", "b", point(1, 0))), 8)
        self.assertEqual(yard.frame, before)
        yard.work(("ground", "b", None))
        self.assertEqual(yard.work(("ground", "b", None)), 10)

    def test_loads(self):
        yard = base()
        yard.work(("load", "c", q(1), q(2)))
        yard.work(("load", "a", q(0), q(0)))
        self.assertEqual(yard.load.entries, forces(c=(1, 2)))
        yard.work(("load", "c", q(1), q(-5)))
        yard.work(("load", "b", q(1, 2), q(0)))
        self.assertEqual(yard.load.entries, [("b", q(1, 2), q(0)), ("c", q(2), q(-3))])
        self.assertEqual(yard.work(("load", "c", q(-2), q(3))), 8)
        self.assertEqual(yard.load.entries, [("b", q(1, 2), q(0))])

    def test_drops(self):
        yard = base()
        yard.work(("load", "a", q(1), q(2)))
        yard.work(("load", "c", q(1), q(2)))
        yard.work(("drop", "a"))
        self.assertEqual(yard.frame, Frame(joints(b=(4, 0), c=(0, 3)), [("bc", "c", "b", "tie")],
            grounds=[("b", "fixed")]))
        self.assertEqual(yard.load.entries, forces(c=(1, 2)))
        # The names are free again; what is new comes last.
        yard.work(setting("a", 0, 0, "fixed", ("ab", "b", "rod")))
        self.assertEqual(yard.frame.joints, joints(b=(4, 0), c=(0, 3), a=(0, 0)))
        self.assertEqual(yard.frame.grounds, [("b", "fixed"), ("a", "fixed")])
        self.assertEqual(yard.load.force("a"), point(0, 0))
        for name in "bca":
            yard.work(("drop", name))
        self.assertEqual((yard.frame, yard.load), (Frame([], []), Load([])))

    def test_states(self):
        yard = base()
        yard.work(("load", "c", q(1), q(2)))
        yard.work(("drop", "c"))
        self.assertEqual(yard.state(0), (Frame([], []), Load([])))
        self.assertEqual(yard.state(1), (Frame(joints(a=(0, 0)), [], grounds=[("a", "fixed")]), Load([])))
        self.assertEqual(yard.state(4), (base().frame, Load(forces(c=(1, 2)))))
        self.assertEqual(yard.state(5), (yard.frame, yard.load))
        self.assertIsInstance(yard.state(5), tuple)
        for value in [None, True, False, "1", (1, 1), [1], q(1)]:
            check_error(self, WrongKind, {"argument": "number"}, yard.state, value)
        for value in (-1, 6, HUGE, -HUGE):
            check_error(self, OutOfBounds, {"argument": "number"}, yard.state, value)
        yard.undo()
        check_error(self, OutOfBounds, {"argument": "number"}, yard.state, 5)

    def test_every_kind_under_every_rule(self):
        for rule in RULES:
            yard = base(rule)
            deeds = [
                ("ground", "c", "fixed"), ("load", "c", q(4), q(3)), ("cut", "bc"), ("bar", "cb", "c", "b", "prop"),
                setting("d", 4, 3, None, ("cd", "c", "tie"), ("bd", "b", "prop")), ("load", "d", q(2), q(-1)),
                ("ground", "c", point(1, 0)), ("drop", "d"), ("ground", "c", None), ("load", "c", q(-4), q(-3)),
                ("cut", "ac"), ("drop", "c"),
            ]
            for k, deed in enumerate(deeds):
                if rule == "stand" and deed == ("cut", "ac"):
                    # A joint on one bar moves.
                    with self.assertRaises(Unsafe):
                        yard.work(deed)
                else:
                    self.assertEqual(yard.work(deed), k + 4 - (rule == "stand" and k == 11))
            self.assertEqual(yard.load, Load([]))
            self.assertEqual([row[0] for row in yard.frame.joints], ["a", "b"])

    def test_kinds(self):
        for rule in RULES:
            yard = base() if rule == "free" else base(rule)
            before = look(yard)
            for value in NO_DEEDS:
                check_error(self, WrongKind, {"argument": "deed"}, yard.work, value)
            self.assertEqual(look(yard), before)
        for value in NO_NAMES:
            for deed in [
                ("joint", value, ONE, ONE, None, ()), ("joint", "k", ONE, ONE, None, ((value, "a", "rod"),)),
                ("joint", "k", ONE, ONE, None, (("n", value, "rod"),)), ("bar", value, "a", "b", "rod"),
                ("bar", "n", value, "b", "rod"), ("bar", "n", "a", value, "rod"), ("ground", value, None),
                ("load", value, ONE, ONE), ("cut", value), ("drop", value),
            ]:
                check_error(self, WrongKind, {"argument": "deed"}, yard.work, deed)
        for value in NO_RATIOS:
            for deed in [("joint", "k", value, ONE, None, ()), ("joint", "k", ONE, value, None, ()),
                         ("load", "a", value, ONE), ("load", "a", ONE, value), ("ground", "a", (value, ONE)),
                         ("joint", "k", ONE, ONE, (ONE, value), ())]:
                check_error(self, WrongKind, {"argument": "deed"}, yard.work, deed)

    def test_rule_kinds(self):
        for value in NO_RULES:
            check_error(self, WrongKind, {"argument": "rule"}, lambda: Yard(rule=value))
            check_error(self, WrongKind, {"argument": "rule"}, Yard.replayed, [None], value)
            check_error(self, WrongKind, {"argument": "rule"}, keeps, triangle(), Load(forces(x=(1, 1))), value)


class TestRefusals(unittest.TestCase):
    def refused(self, yard, deed, kind, told):
        before = (look(yard), undone(yard))
        check_error(self, kind, told, yard.work, deed)
        self.assertEqual((look(yard), undone(yard)), before)

    def test_repeated(self):
        for rule in RULES:
            yard = base(rule)
            for deed, name in [
                (setting("a", 9, 9), "a"), (setting("c", 0, 0, None, ("ab", "zz", "rod")), "c"),
                (setting("d", 9, 9, None, ("n", "zz", "rod"), ("ab", "a", "rod")), "ab"),
                (setting("d", 9, 9, None, ("n", "a", "rod"), ("n", "b", "rod")), "n"),
                (setting("d", 9, 9, None, ("n", "a", "rod"), ("m", "a", "rod")), "m"),
                (setting("d", 9, 9, None, ("n", "d", "rod"), ("m", "d", "rod")), "m"),
                (setting("d", 9, 9, None, ("n", "zz", "rod"), ("m", "zz", "rod"), ("ab", "a", "tie")), "m"),
                (("bar", "ab", "x", "y", "rod"), "ab"), (("bar", "n", "b", "a", "rod"), "n"),
                (("bar", "n", "c", "b", "tie"), "n"),
            ]:
                self.refused(yard, deed, RepeatedName, {"repeated": name})

    def test_unknown(self):
        for rule in RULES:
            yard = base(rule)
            for deed, name in [
                (setting("d", 9, 9, None, ("n", "x", "rod"), ("m", "y", "rod")), "x"),
                (setting("d", 9, 9, None, ("n", "a", "rod"), ("m", "y", "rod")), "y"),
                # A new joint is not there yet.
                (setting("d", 9, 9, None, ("n", "d", "rod"), ("m", "y", "rod")), "d"),
                (setting("d", 9, 9, None, ("n", "a", "rod"), ("d", "d", "rod")), "d"),
                (("bar", "n", "x", "y", "rod"), "x"), (("bar", "n", "a", "y", "rod"), "y"),
                (("bar", "n", "x", "x", "rod"), "x"),
                (("bar", "n", "ab", "a", "rod"), "ab"), (("ground", "x", None), "x"), (("ground", "ab", "fixed"), "ab"),
                (("load", "x", q(0), q(0)), "x"), (("cut", "x"), "x"), (("cut", "a"), "a"), (("drop", "x"), "x"),
                (("drop", "ab"), "ab"),
            ]:
                self.refused(yard, deed, UnknownName, {"unknown": name})

    def test_zero_bars(self):
        for rule in RULES:
            yard = base(rule)
            for deed, name in [
                (("bar", "n", "a", "a", "rod"), "n"),
                (setting("d", 0, 0, None, ("n", "b", "rod"), ("m", "a", "rod")), "m"),
                (setting("d", 4, 0, "fixed", ("n", "b", "rod"), ("m", "a", "rod")), "n"),
            ]:
                self.refused(yard, deed, ZeroBar, {"subject": name})
            yard.work(setting("d", 0, 0, "fixed"))
            self.refused(yard, ("bar", "n", "d", "a", "tie"), ZeroBar, {"subject": "n"})
            self.refused(yard, ("bar", "n", "a", "d", "tie"), ZeroBar, {"subject": "n"})

    def test_unsafe(self):
        yard = base("stand")
        self.refused_unsafe(yard, ("cut", "ac"))
        self.refused_unsafe(yard, ("drop", "b"))
        self.refused_unsafe(yard, ("ground", "a", None))
        self.refused_unsafe(yard, setting("d", 1, 1, point(1, 0)))
        self.refused_unsafe(yard, setting("d", 1, 1, None, ("n", "a", "rod")))
        self.assertEqual(yard.work(("cut", "ab")), 4)
        self.assertEqual(yard.work(("load", "c", q(5), q(5))), 5)
        yard = base("carry")
        yard.work(("load", "c", q(1), q(-1)))
        self.refused_unsafe(yard, ("cut", "ac"))
        self.refused_unsafe(yard, ("cut", "bc"))
        self.assertEqual(yard.work(("cut", "ab")), 5)
        self.refused_unsafe(yard, ("ground", "b", point(0, 1)))
        self.assertEqual(yard.work(("drop", "c")), 6)
        self.assertEqual(yard.work(setting("d", 7, 7)), 7)
        self.refused_unsafe(yard, ("load", "d", q(1), q(0)))
        yard = base("hold")
        self.refused_unsafe(yard, ("load", "c", q(4), q(3)))
        self.assertEqual(yard.work(("load", "c", q(-4), q(0))), 4)
        self.refused_unsafe(yard, ("load", "c", q(8), q(0)))
        self.refused_unsafe(yard, ("cut", "ac"))
        self.assertEqual(base("carry").work(("load", "c", q(4), q(3))), 4)

    def refused_unsafe(self, yard, deed):
        before = (look(yard), undone(yard))
        free = Yard.replayed(yard.records, "free")
        free.work(deed)
        with self.assertRaises(Unsafe) as caught:
            yard.work(deed)
        self.assertIs(caught.exception.__class__, Unsafe)
        self.check_danger(free.frame, free.load, yard.rule, caught.exception.velocities)
        self.assertEqual((look(yard), undone(yard)), before)
        self.assertIs(keeps(free.frame, free.load, yard.rule), False)

    def check_danger(self, frame, load, rule, velocities):
        if rule == "hold":
            check_roles_kept(self, frame, velocities)
        else:
            check_grounds_kept(self, frame, velocities)
            self.assertEqual(set(slow_rates(frame, velocities).values()) - {0}, set())
        if rule == "stand":
            self.assertTrue(any(row[1:] != point(0, 0) for row in velocities))
        else:
            self.assertGreater(slow_power(load, velocities), 0)

    def test_rounds(self):
        # Each round before the next: bounds, repeated names, unknown names, zero bars, safety.
        yard = base("stand")
        deed = setting("a", 0, 0, None, ("ab", "zz", "rod"))
        self.refused(yard, deed, RepeatedName, {"repeated": "a"})
        self.refused(yard, setting("d", 0, 0, None, ("ab", "zz", "rod")), RepeatedName, {"repeated": "ab"})
        self.refused(yard, setting("d", 0, 0, None, ("n", "a", "rod"), ("m", "zz", "rod")), UnknownName,
            {"unknown": "zz"})
        self.refused(yard, setting("d", 0, 0, None, ("n", "a", "rod")), ZeroBar, {"subject": "n"})
        self.refused_unsafe(yard, setting("d", 0, 1, None, ("n", "a", "rod")))

    def test_bounds_of_joints(self):
        yard = Yard()
        for k in range(12):
            self.assertEqual(yard.work(setting(f"j{k}", k, k * k, "fixed")), k + 1)
        for deed in [setting("k", 5, 5), setting("j1", 5, 5), setting("k", 5, 5, None, ("n", "zz", "rod"))]:
            self.refused(yard, deed, OutOfBounds, {"argument": "deed"})
        yard.work(("drop", "j3"))
        yard.work(setting("k", 5, 5))
        self.refused(yard, setting("j3", 5, 5), OutOfBounds, {"argument": "deed"})
        yard.work(("bar", "n", "k", "j0", "rod"))

    def test_bounds_of_bars(self):
        yard = Yard()
        names = [f"j{k}" for k in range(8)]
        for k, name in enumerate(names):
            yard.work(setting(name, k, k * k, "fixed",
                *[(f"{name}x{other}", other, "rod") for other in names[:k]][:30]))
            # 28 bars between 8 joints.
        self.assertEqual(len(yard.frame.bars), 28)
        links = [(f"n{k}", name, "rod") for k, name in enumerate(names)]
        for deed in [setting("k", 9, 0, None, *links[:3]), setting("j0", 9, 0, None, *links[:3]),
                     setting("k", 9, 0, None, *[("n", "zz", "rod")] * 3)]:
            self.refused(yard, deed, OutOfBounds, {"argument": "deed"})
        yard.work(setting("k", 9, 0, None, *links[:2]))
        self.assertEqual(len(yard.frame.bars), 30)
        for deed in [("bar", "n", "k", "j5", "rod"), ("bar", "n0", "zz", "zz", "rod"),
                     setting("m", 9, 1, None, ("n", "k", "rod"))]:
            self.refused(yard, deed, OutOfBounds, {"argument": "deed"})
        self.assertEqual(yard.work(setting("m", 9, 1)), 10)
        yard.work(("cut", "n0"))
        yard.work(("bar", "n", "k", "j5", "rod"))

    def test_bounds_of_records(self):
        yard = Yard(rule="carry")
        yard.work(setting("a", 0, 0))
        for k in range(39):
            self.assertEqual(yard.work(("load", "a", q(0), q(0))), k + 2)
        self.assertEqual(yard.count(), 40)
        for deed in [("load", "a", q(0), q(0)), ("load", "zz", q(1), q(0)), ("cut", "zz"), setting("a", 0, 0),
                     ("load", "a", q(1), q(0))]:
            self.refused(yard, deed, OutOfBounds, {"argument": "deed"})
        check_error(self, WrongKind, {"argument": "deed"}, yard.work, ("cut", 1))
        yard.undo()
        self.refused(yard, ("cut", "zz"), UnknownName, {"unknown": "zz"})
        self.assertEqual(yard.redo(), ("load", "a", q(0), q(0)))
        self.assertEqual(yard.count(), 40)
        yard.undo()
        self.assertEqual(yard.work(("drop", "a")), 40)

    def test_keeps_what_was_undone(self):
        yard = base("stand")
        yard.undo()
        for deed, kind in [(("cut", "zz"), UnknownName), (("cut", 1), WrongKind), (setting("a", 0, 0), RepeatedName),
                           (("bar", "n", "a", "a", "rod"), ZeroBar), (("drop", "x"), UnknownName),
                           (("ground", "a", None), Unsafe)]:
            with self.assertRaises(kind):
                yard.work(deed)
        self.assertEqual(yard.redo(), setting("c", 0, 3, None, ("ac", "a", "rod"), ("bc", "b", "tie")))
        self.assertEqual(yard, base("stand"))


class TestRecords(unittest.TestCase):
    def test_undo_and_redo(self):
        yard = base()
        states = look(yard)[-1]
        deeds = yard.records
        for k in (2, 1, 0):
            self.assertEqual(yard.undo(), deeds[k])
            self.assertEqual((yard.frame, yard.load.entries), states[k])
            self.assertEqual(yard.records, deeds[:k])
        check_error(self, NothingToUndo, {"subject": None}, yard.undo)
        for k in (0, 1, 2):
            self.assertEqual(yard.redo(), deeds[k])
            self.assertEqual((yard.frame, yard.load.entries), states[k + 1])
        check_error(self, NothingToRedo, {"subject": None}, yard.redo)
        self.assertEqual(yard, base())
        self.assertEqual(look(yard), look(base()))

    def test_work_clears(self):
        yard = base()
        yard.undo()
        yard.undo()
        yard.redo()
        self.assertEqual(undone(yard), base().records[2:])
        self.assertEqual(yard.work(("cut", "ab")), 3)
        check_error(self, NothingToRedo, {"subject": None}, yard.redo)
        self.assertEqual(yard.undo(), ("cut", "ab"))
        self.assertEqual(undone(yard), [("cut", "ab")])
        check_error(self, NothingToRedo, {"subject": None}, Yard().redo)
        check_error(self, NothingToUndo, {"subject": None}, Yard().undo)

    def test_copies(self):
        yard = base()
        before = look(yard)
        yard.records.clear()
        yard.frame.joints.clear()
        yard.load.entries.append(1)
        self.assertEqual(look(yard), before)
        self.assertIsNot(yard.records, yard.records)
        self.assertEqual([deed for deed in yard], yard.records)
        self.assertIn(yard.records[1], yard)

    def test_twin(self):
        yard = base("stand")
        yard.work(("load", "c", q(1), q(1)))
        yard.undo()
        twin = yard.twin()
        self.assertIsNot(twin, yard)
        self.assertTrue(twin == yard)
        self.assertEqual((look(twin), undone(twin)), (look(yard), undone(yard)))
        twin.redo()
        self.assertEqual((yard.count(), twin.count()), (3, 4))
        self.assertEqual(undone(yard), [("load", "c", q(1), q(1))])
        yard.undo()
        yard.work(setting("d", 1, 1, "fixed"))
        self.assertEqual([row[0] for row in twin.frame.joints], ["a", "b", "c"])
        self.assertEqual(undone(yard), [])
        self.assertEqual(twin.undo(), ("load", "c", q(1), q(1)))
        self.assertEqual(twin.undo()[1], "c")
        self.assertEqual(yard.state(3)[0].place("d"), point(1, 1))
        # Refused deeds in one of them leave the other as it is.
        with self.assertRaises(FrameError):
            twin.work(("ground", "a", None))
        self.assertEqual(undone(twin), [base().records[2], ("load", "c", q(1), q(1))])
        self.assertEqual(look(Yard().twin()), look(Yard()))

    def test_equal(self):
        yard = base()
        self.assertTrue(yard == base())
        self.assertFalse(yard != base())
        other = base()
        other.work(("cut", "ab"))
        self.assertFalse(yard == other)
        other.undo()
        # What could be redone does not matter.
        self.assertTrue(yard == other)
        self.assertTrue(Yard() == Yard(rule="free"))
        self.assertFalse(Yard() == Yard(rule="carry"))
        self.assertTrue(base("carry") != yard)
        # Yards that come to the same by other deeds are not equal.
        one, two = Yard(), Yard()
        one.work(setting("a", 0, 0, "fixed"))
        two.work(setting("a", 0, 0))
        two.work(("ground", "a", "fixed"))
        self.assertEqual(one.frame, two.frame)
        self.assertFalse(one == two)
        for value in [None, 1, "free", yard.records, yard.frame, yard.load, [], ()]:
            self.assertIs(yard == value, False)
            self.assertIs(yard != value, True)

    def test_replayed(self):
        yard = base("stand")
        found = Yard.replayed(yard.records, "stand")
        self.assertIsInstance(found, Yard)
        self.assertEqual(look(found), look(yard))
        self.assertEqual(Yard.replayed([], "hold"), Yard(rule="hold"))
        self.assertEqual(yard.replayed([], "hold").rule, "hold")
        deeds = yard.records
        before = copy.deepcopy(deeds)
        found = Yard.replayed(deeds, "free")
        found.work(("cut", "ab"))
        self.assertEqual(deeds, before)
        self.assertIsNot(Yard.replayed(deeds, "free"), Yard.replayed(deeds, "free"))
        self.assertEqual(undone(Yard.replayed(deeds, "free")), [])

    def test_replayed_errors(self):
        first = setting("a", 0, 0)
        for value in [None, 1, (), {}, "deeds", (first,), Yard(), True]:
            check_error(self, WrongKind, {"argument": "deeds"}, Yard.replayed, value, "wrong")
        for value in NO_DEEDS:
            check_error(self, WrongKind, {"argument": "deed"}, Yard.replayed, [first, value], "free")
            # Its turn does not come.
            check_error(self, UnknownName, {"unknown": "x"}, Yard.replayed, [first, ("cut", "x"), value], "free")
        zero = ("load", "a", q(0), q(0))
        check_error(self, OutOfBounds, {"argument": "deed"}, Yard.replayed, [first] + [zero] * 40, "free")
        check_error(self, OutOfBounds, {"argument": "deed"}, Yard.replayed, [first] + [zero] * 39 + [first], "free")
        self.assertEqual(Yard.replayed([first] + [zero] * 39, "free").count(), 40)
        check_error(self, WrongKind, {"argument": "deed"}, Yard.replayed, [first] + [zero] * 39 + [None], "free")
        check_error(self, RepeatedName, {"repeated": "a"}, Yard.replayed, [first, first], "carry")
        check_error(self, Unsafe, {}, Yard.replayed, [first, ("load", "a", q(1), q(0))], "carry")
        check_error(self, Unsafe, {"velocities": [("a", q(1), q(0))]}, Yard.replayed, [first], "stand")

    def test_long_numbers(self):
        yard = Yard(rule="carry")
        yard.work(("joint", "a", (HUGE, 1), (1, HUGE), "fixed", ()))
        yard.work(("joint", "b", (HUGE, 1), q(5), (q(1), (HUGE, 1)), (("ab", "a", "rod"),)))
        yard.work(("load", "b", (HUGE, 7), (-1, HUGE)))
        self.assertEqual(Yard.replayed(yard.records, "carry"), yard)


class TestKeeps(unittest.TestCase):
    def test_many(self):
        found = {}
        for frame, load in some_frames(250, 201):
            due = {"free": True, "carry": carried(frame, load), "hold": hold(frame, load)[0] == "forces",
                   "stand": freedom(frame) == 0}
            for rule in RULES:
                self.assertIs(keeps(frame, load, rule), due[rule])
                found[(rule, due[rule])] = found.get((rule, due[rule]), 0) + 1
        self.assertTrue(len(found) == 7 and min(found.values()) > 20, found)

    def test_small(self):
        for rule in RULES:
            self.assertIs(keeps(Frame([], []), Load([]), rule), True)
        self.assertIs(keeps(Frame(joints(a=(0, 0)), []), Load([]), "stand"), False)
        self.assertIs(keeps(Frame(joints(a=(0, 0)), []), Load([]), "carry"), True)
        self.assertIs(keeps(Frame(joints(a=(0, 0)), []), Load(forces(a=(1, 0))), "free"), True)

    def test_errors(self):
        far = Load(forces(y=(1, 1), x=(1, 1), a=(1, 1)))
        for value in NO_FRAMES:
            check_error(self, WrongKind, {"argument": "frame"}, keeps, value, None, None)
        for value in NO_LOADS:
            check_error(self, WrongKind, {"argument": "load"}, keeps, triangle(), value, None)
        for rule in RULES:
            check_error(self, UnknownName, {"unknown": "x"}, keeps, triangle(), far, rule)


class TestWalks(unittest.TestCase):
    """Random deeds, with a slow yard beside."""

    def test_many(self):
        source = random.Random(202)
        seen = {}
        for rule in RULES * 12:
            yard = Yard(rule=rule)
            records, again = [], []
            for _ in range(60):
                before = look(yard)
                deed = self.some_deed(source)
                try:
                    if deed == "undo":
                        self.assertEqual(yard.undo(), records[-1])
                        again.append(records.pop())
                    elif deed == "redo":
                        self.assertEqual(yard.redo(), again[-1])
                        records.append(again.pop())
                    else:
                        self.assertEqual(yard.work(deed), len(records) + 1)
                        records, again = records + [deed], []
                    seen[deed[0]] = seen.get(deed[0], 0) + 1
                except FrameError as error:
                    seen[error.__class__] = seen.get(error.__class__, 0) + 1
                    self.assertEqual(look(yard), before)
                self.assertEqual((yard.records, undone(yard)), (records, again[::-1]))
                self.assertIs(keeps(yard.frame, yard.load, rule), True)
            self.assertEqual(look(Yard.replayed(records, rule)), look(yard))
        self.assertTrue(len(seen) >= 12 and min(seen.values()) > 3, seen)

    def some_deed(self, source):
        name, other, third = source.sample("abcde", 3)
        bar = source.choice(["k", "l", "m", "n", "o", "p"])
        spot = (q(source.randint(0, 2)), q(source.randint(0, 2)))
        across = source.choice([None, "fixed", point(1, 0), point(1, 1), "fixed"])
        links = [(bar, other, source.choice(["rod", "tie", "prop"])), (source.choice("qrs"), third, "rod")]
        return source.choice([
            ("joint", name, *spot, across, tuple(links[:source.randint(0, 2)])),
            ("joint", name, *spot, "fixed", ()), ("joint", name, *spot, across, tuple(links)),
            ("bar", bar, name, other, source.choice(["rod", "tie"])), ("ground", name, across),
            ("load", name, q(source.randint(-1, 1)), q(source.randint(-1, 1))), ("cut", bar), ("drop", name), "undo",
            "redo", "undo"])

    def test_fresh(self):
        check_fresh(self, lambda: base().records)
        check_fresh(self, lambda: list(base()))
