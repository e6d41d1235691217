import copy
import itertools
import random
import unittest

from helpers import (
    NO_FRAMES, NO_LOADS, NO_NAME_LISTS, bars, check_error, check_fresh, crossed_square, forces, joints, point, q,
    triangle,
)
from reference import some_frames
from standframes.changes import part, part_load
from standframes.cranes import (
    carrying_order, is_carrying_order, is_standing_order, order_deeds, sound, standing_order,
)
from standframes.errors import OutOfBounds, RepeatedName, UnknownName, WrongKind
from standframes.frames import Frame
from standframes.loads import Load
from standframes.yards import Yard, keeps

NO_RULES = [None, 1, "", "free", "Carry", ["carry"], ("carry",), True, {}, "holds", triangle()]


def mast(role="rod"):
    """A joint on three bars to fixed joints, named so that it comes first."""
    places = joints(m=(0, 4), a=(-3, 0), b=(3, 0), f=(0, 0))
    return Frame(places, bars("am", "bm", "fm", role=role), grounds=[(name, "fixed") for name in "abf"])


def tower():
    """Two joints, the upper one on the lower one, on two fixed joints."""
    places = joints(t=(1, 2), l=(0, 1), a=(0, 0), b=(2, 0))
    return Frame(places, bars("lt", "bt", "al", "bl"), grounds=[("a", "fixed"), ("b", "fixed")])


def names_of(frame):
    return [row[0] for row in frame.joints]


def slow_sound(frame, load, order, rule):
    return all(
        keeps(part(frame, order[:k]), part_load(load, order[:k]), rule) for k in range(1, len(order) + 1))


def chain(count):
    places = [(f"j{k}", q(k), q(k * k)) for k in range(count)]
    lines = [(f"b{k}", f"j{k}", f"j{k + 1}", "rod") for k in range(count - 1)]
    return Frame(places, lines, grounds=[(name, "fixed") for name, _, _ in places])


class TestSound(unittest.TestCase):
    def test_small(self):
        frame, none = tower(), Load([])
        for order, due in [("ablt", True), ("balt", True), ("abtl", False), ("albt", False), ("tlab", False),
                           ("lbat", False)]:
            self.assertIs(sound(frame, none, list(order), rule="stand"), due)
        load = Load(forces(t=(1, 0)))
        for order, due in [("ablt", True), ("lbat", True), ("tabl", False), ("labt", True), ("abtl", False)]:
            self.assertIs(sound(frame, load, list(order), rule="carry"), due)
            self.assertIs(sound(frame, none, list(order), rule="carry"), True)
        for rule in ("carry", "hold", "stand"):
            self.assertIs(sound(Frame([], []), none, [], rule=rule), True)
        # Ties that cannot push.
        frame, load = mast("tie"), Load(forces(m=(0, 1)))
        self.assertIs(sound(frame, load, list("abfm"), rule="hold"), True)
        self.assertIs(sound(frame, Load(forces(m=(0, -1))), list("abfm"), rule="hold"), False)
        self.assertIs(sound(frame, Load(forces(m=(0, -1))), list("abfm"), rule="carry"), True)

    def test_many(self):
        source = random.Random(211)
        found = {}
        for frame, load in some_frames(200, 212):
            order = source.sample(names_of(frame), len(frame.joints))
            for rule in ("carry", "hold", "stand"):
                due = slow_sound(frame, load, order, rule)
                self.assertIs(sound(frame, load, order, rule=rule), due)
                found[(rule, due)] = found.get((rule, due), 0) + 1
        self.assertTrue(len(found) == 6 and min(found.values()) > 15, found)

    def test_errors(self):
        frame = triangle()
        far = Load(forces(y=(1, 1), x=(1, 1), a=(1, 1)))
        for value in NO_FRAMES:
            check_error(self, WrongKind, {"argument": "frame"}, sound, value, None, None, rule=7)
        for value in NO_LOADS:
            check_error(self, WrongKind, {"argument": "load"}, sound, frame, value, None, rule=7)
        for value in NO_NAME_LISTS:
            check_error(self, WrongKind, {"argument": "order"}, sound, frame, far, value, rule=7)
        for value in NO_RULES:
            check_error(self, WrongKind, {"argument": "rule"}, sound, frame, far, ["z", "z"], rule=value)
        for call in (lambda *args: sound(*args, rule="stand"), order_deeds):
            for order in (["z", "z"], [], list("abca"), list("zzzz")):
                check_error(self, OutOfBounds, {"argument": "order"}, call, frame, far, order)
            check_error(self, RepeatedName, {"repeated": "z"}, call, frame, far, list("zaz"))
            check_error(self, UnknownName, {"unknown": "x"}, call, frame, far, list("uva"))
            check_error(self, UnknownName, {"unknown": "u"}, call, frame, Load([]), list("auv"))
            check_error(self, UnknownName, {"unknown": "ab"}, call, frame, Load([]), ["a", "ab", "c"])


class TestStandingOrder(unittest.TestCase):
    def test_small(self):
        self.assertEqual(standing_order(tower()), ("order", ["a", "b", "l", "t"]))
        self.assertEqual(standing_order(mast()), ("order", ["a", "b", "m", "f"]))
        self.assertEqual(standing_order(Frame([], [])), ("order", []))
        self.assertEqual(standing_order(triangle()), ("stuck", []))
        self.assertEqual(standing_order(triangle(grounds=[("b", "fixed")])), ("stuck", ["b"]))
        # A ring that stands only as a whole.
        held = Frame(joints(a=(0, 0), b=(1, 0), c=(2, 1), d=(0, 1)), bars("ac", "bd", "cd", "bc"),
                     grounds=[("a", "fixed"), ("b", "fixed")])
        self.assertEqual(standing_order(held), ("order", ["a", "b", "c", "d"]))
        ring = Frame(held.joints, bars("ac", "bd", "cd"), grounds=held.grounds + [("d", point(1, 0))])
        self.assertEqual(standing_order(ring), ("order", ["a", "b", "d", "c"]))
        stuck = Frame(joints(a=(0, 0), d=(0, 1), e=(5, 5), b=(3, 0)), bars("ad", "de", "eb"), grounds=[
            ("b", "fixed"), ("a", "fixed")])
        self.assertEqual(standing_order(stuck), ("stuck", ["a", "b"]))

    def test_many(self):
        source = random.Random(213)
        words = {"order": 0, "stuck": 0}
        for frame, _ in some_frames(250, 214):
            if source.random() < 0.6:
                held = source.sample(names_of(frame), min(2, len(frame.joints)))
                frame = Frame(frame.joints, frame.bars, grounds=[(name, "fixed") for name in held])
            answer = standing_order(frame)
            words[answer[0]] += len(answer[1]) > 0
            self.assertEqual(answer, self.slow_order(frame))
            self.assertIs(is_standing_order(frame, answer), True)
            self.check_all(frame, answer[0], source)
        self.assertTrue(min(words.values()) > 40, words)

    def slow_order(self, frame):
        order = []
        while True:
            more = [name for name in names_of(frame) if name not in order
                    and keeps(part(frame, order + [name]), Load([]), "stand")]
            if not more:
                return ("order" if len(order) == len(frame.joints) else "stuck", order)
            order.append(more[0])

    def check_all(self, frame, word, source):
        """Random answers of the right form; one of the other word is never right."""
        names = names_of(frame)
        for _ in range(4):
            order = source.sample(names, len(names))
            self.assertIs(is_standing_order(frame, ("order", order)), slow_sound(frame, Load([]), order, "stand"))
            some = source.sample(names, source.randint(0, len(names)))
            due = len(some) < len(names) and keeps(part(frame, some), Load([]), "stand") and not any(
                keeps(part(frame, some + [name]), Load([]), "stand") for name in names if name not in some)
            self.assertIs(is_standing_order(frame, ("stuck", some)), due)
            self.assertFalse(due and word == "order")

    def test_is_standing_order(self):
        frame = tower()
        for order, due in [("ablt", True), ("balt", True), ("abtl", False), ("abl", False), ("abltt", False),
                           ("ablz", False), ("aalt", False)]:
            self.assertIs(is_standing_order(frame, ("order", list(order))), due)
            self.assertIs(is_standing_order(frame, ("stuck", list(order))), False)
        good = ["a", "b", "l", "t"]
        for answer in [
            None, 1, "order", (), ("order",), ["order", good], ("order", good, 1), ("Order", good),
            ("order", tuple(good)),
            ("order", "ablt"), ("order", None), (None, good), ("stuck", []), ("stuck", good), ("order", [good]), {},
            frame,
            ("order", [["a"], "b", "l", "t"]), ("order", [1, 2, 3, 4]), ("order", {}), (True, good), good,
        ]:
            self.assertIs(is_standing_order(frame, answer), False)
        stuck = Frame(joints(a=(0, 0), b=(3, 0), c=(1, 1)), bars("ac"), grounds=[("a", "fixed"), ("b", "fixed")])
        for some, due in [("ab", True), ("ba", True), ("a", False), ("", False), ("abc", False), ("aba", False),
            ("ac", False),
                          ("abz", False), ("aab", False)]:
            self.assertIs(is_standing_order(stuck, ("stuck", list(some))), due)
        self.assertIs(is_standing_order(stuck, ("stuck", ("a", "b"))), False)
        for word in ("Stuck", "order", "", None, True, "groups"):
            self.assertIs(is_standing_order(stuck, (word, ["a", "b"])), False)
        more = Frame(stuck.joints + joints(d=(9, 9)), stuck.bars, grounds=stuck.grounds)
        for some, due in [("ab", True), ("abz", False), ("zab", False), ("abc", False), ("abab", False)]:
            self.assertIs(is_standing_order(more, ("stuck", list(some))), due)
        self.assertIs(is_standing_order(stuck, ("stuck", ["a", ["b"]])), False)
        self.assertIs(is_standing_order(Frame([], []), ("order", [])), True)
        self.assertIs(is_standing_order(Frame([], []), ("stuck", [])), False)
        self.assertIs(is_standing_order(triangle(), ("stuck", [])), True)

    def test_twelve(self):
        frame = chain(12)
        self.assertEqual(standing_order(frame), ("order", names_of(frame)))

    def test_errors(self):
        for value in NO_FRAMES:
            check_error(self, WrongKind, {"argument": "frame"}, standing_order, value)
            check_error(self, WrongKind, {"argument": "frame"}, is_standing_order, value, None)

    def test_fresh(self):
        check_fresh(self, lambda: standing_order(tower()))
        check_fresh(self, lambda: standing_order(triangle(grounds=[("b", "fixed")])))


class TestCarryingOrder(unittest.TestCase):
    def test_small(self):
        frame, load = tower(), Load(forces(t=(1, 0), l=(0, -1)))
        for rule in ("carry", "hold"):
            word, order = carrying_order(frame, load, rule=rule)
            self.assertEqual(word, "order")
            self.assertIs(sound(frame, load, order, rule=rule), True)
            self.assertIs(is_carrying_order(frame, load, (word, order), rule=rule), True)
        self.assertEqual(carrying_order(Frame([], []), Load([])), ("order", []))
        self.assertEqual(carrying_order(Frame([], []), Load([]), rule="hold"), ("order", []))
        alone = Frame(joints(a=(0, 0)), [])
        self.assertEqual(carrying_order(alone, Load([])), ("order", ["a"]))
        self.assertEqual(carrying_order(alone, Load(forces(a=(1, 0)))), ("stuck", [[]]))
        word, groups = carrying_order(mast("tie"), Load(forces(m=(0, -1))), rule="hold")
        self.assertEqual((word, sorted(map("".join, groups))), (
            "stuck", ["", "a", "ab", "abf", "af", "b", "bf", "f"]))
        self.assertEqual(carrying_order(mast("tie"), Load(forces(m=(0, -1))))[0], "order")
        self.assertEqual(carrying_order(mast("prop"), Load(forces(m=(0, -1))), rule="hold")[0], "order")

    def test_search(self):
        # Two joints that carry each other's load: neither can come first, as each has a force.
        frame = Frame(joints(a=(0, 0), b=(1, 0), c=(2, 0)), bars("ab", "bc"))
        load = Load(forces(a=(1, 0), b=(-1, 0)))
        self.assertEqual(carrying_order(frame, load), ("stuck", [[], ["c"]]))
        # With a ground at the end of the row, it is built from there.
        frame = Frame(frame.joints, frame.bars, grounds=[("c", point(0, 1))])
        self.assertEqual(carrying_order(frame, load), ("order", ["c", "b", "a"]))
        found = carrying_order(frame, Load(forces(b=(5, 0))))
        self.assertEqual(found[0], "order")
        self.assertLess(found[1].index("c"), found[1].index("b"))

    def test_many(self):
        source = random.Random(215)
        words = {}
        for frame, load in some_frames(150, 216):
            if source.random() < 0.5:
                load = Load(load.entries[:1])
            for rule in ("carry", "hold"):
                answer = carrying_order(frame, load, rule=rule)
                words[(rule, answer[0])] = words.get((rule, answer[0]), 0) + 1
                self.assertIs(is_carrying_order(frame, load, answer, rule=rule), True)
                due = any(slow_sound(frame, load, list(order), rule)
                          for order in itertools.permutations(names_of(frame))) if len(frame.joints) < 5 else None
                if due is not None:
                    self.assertEqual(answer[0], "order" if due else "stuck")
                if answer[0] == "order":
                    self.assertEqual(sorted(answer[1]), sorted(names_of(frame)))
                    self.assertIs(slow_sound(frame, load, answer[1], rule), True)
                else:
                    self.check_stuck(frame, load, rule, answer[1], source)
        self.assertTrue(len(words) == 4 and min(words.values()) > 25, words)

    def check_stuck(self, frame, load, rule, groups, source):
        self.assertIs(self.slow_stuck(frame, load, rule, groups), True)
        less = [group for group in groups if source.random() < 0.8]
        self.assertIs(is_carrying_order(frame, load, ("stuck", less), rule=rule),
            self.slow_stuck(frame, load, rule, less))

    def slow_stuck(self, frame, load, rule, groups):
        names = names_of(frame)
        sets = [frozenset(group) for group in groups]
        if frozenset() not in sets or frozenset(names) in sets or len(set(sets)) != len(sets):
            return False
        for group in sets:
            for name in set(names) - group:
                more = group | {name}
                held = keeps(part(frame, sorted(more)), part_load(load, sorted(more)), rule)
                if more not in sets and held:
                    return False
        return True

    def test_is_carrying_order(self):
        frame, load = mast("tie"), Load(forces(m=(0, -1)))
        good = carrying_order(frame, load, rule="hold")
        word, groups = good
        self.assertIs(is_carrying_order(frame, load, good, rule="hold"), True)
        self.assertIs(is_carrying_order(frame, load, good, rule="carry"), False)
        self.assertIs(is_carrying_order(frame, load, good), False)
        self.assertIs(is_carrying_order(frame, load, (word, groups[::-1]), rule="hold"), True)
        # More groups than are needed, also one that does not keep the rule, but then all that it leads to.
        more = groups + [["m"]]
        self.assertIs(is_carrying_order(frame, load, (word, more), rule="hold"), True)
        everything = [list(some) for size in range(4) for some in itertools.combinations(names_of(frame), size)]
        self.assertIs(is_carrying_order(frame, load, (word, everything), rule="hold"), True)
        self.assertIs(is_carrying_order(frame, load, (word, everything + [list("mabf")]), rule="hold"), False)
        for answer in [
            None, 1, word, (), (word,), list(good), (*good, 1), ("Stuck", groups), (word, tuple(groups)), (word, []),
            (word, groups[1:]), (word, groups + groups[:1]), (word, [[]]), (word, [tuple(group) for group in groups]),
            (word, groups + [["b", "a"]]), (word, groups + [["zz"]]), (word, groups + [["a", "a"]]), (word, None), {},
            (word, groups + [None]), (word, groups + ["ab"]), (word, groups + [list("abfm")]), (word, groups + [[1]]),
            ("order", list("abfm")), ("order", groups), (None, groups), frame,
            (word, [group for group in groups if group]),
            (word, groups + [list("mabf")]), (word, [[], ["a"], ["b"], ["f"]]), ("order", []),
            (word, groups + [[["a"]]]),
        ]:
            self.assertIs(is_carrying_order(frame, load, answer, rule="hold"), False)

    def test_is_order(self):
        frame, load = tower(), Load(forces(t=(1, 0)))
        for order, due in [("ablt", True), ("lbat", True), ("tabl", False), ("abtl", False), ("abl", False),
                           ("abltt", False), ("ablz", False)]:
            self.assertIs(is_carrying_order(frame, load, ("order", list(order))), due)
        for answer in [("order", tuple("ablt")), ("order", "ablt"), ("order", None), ("Order", list("ablt")),
                       ["order", list("ablt")], ("order", [["a"], "b", "l", "t"]), ("stuck", list("ablt")),
                       ("stuck", [[], ["a"]])]:
            self.assertIs(is_carrying_order(frame, load, answer), False)
        self.assertIs(is_carrying_order(Frame([], []), Load([]), ("order", [])), True)
        self.assertIs(is_carrying_order(Frame([], []), Load([]), ("stuck", [[]])), False)
        self.assertIs(is_carrying_order(Frame([], []), Load([]), ("stuck", [])), False)

    def test_bounds(self):
        seven, eight = chain(7), chain(8)
        self.assertEqual(carrying_order(seven, Load([]))[0], "order")
        far = Load(forces(y=(1, 1), x=(1, 1), j0=(1, 1)))
        for call in (carrying_order, lambda frame, load, **more: is_carrying_order(frame, load, None, **more)):
            check_error(self, OutOfBounds, {"argument": "frame"}, call, eight, far)
            check_error(self, OutOfBounds, {"argument": "frame"}, call, eight, Load([]), rule="hold")
            for value in NO_FRAMES:
                check_error(self, WrongKind, {"argument": "frame"}, call, value, None, rule=7)
            for value in NO_LOADS:
                check_error(self, WrongKind, {"argument": "load"}, call, eight, value, rule=7)
            for value in [*NO_RULES, "stand"]:
                check_error(self, WrongKind, {"argument": "rule"}, call, eight, far, rule=value)
            check_error(self, UnknownName, {"unknown": "x"}, call, seven, far)
        self.assertIs(sound(eight, Load([]), names_of(eight), rule="carry"), True)
        self.assertIs(is_carrying_order(seven, Load([]), ("order", names_of(seven))), True)

    def test_seven_that_are_stuck(self):
        names = "abcdefg"
        frame = Frame([(name, q(k), q(k * k)) for k, name in enumerate(names)], [])
        word, groups = carrying_order(frame, Load(forces(g=(1, 0))), rule="hold")
        self.assertEqual((word, len(groups)), ("stuck", 64))
        self.assertIs(is_carrying_order(frame, Load(forces(g=(1, 0))), (word, groups), rule="hold"), True)

    def test_nothing_changes(self):
        frame, load = mast("tie"), Load(forces(m=(0, -1)))
        answer = carrying_order(frame, load, rule="hold")
        before = copy.deepcopy(answer)
        is_carrying_order(frame, load, answer, rule="hold")
        self.assertEqual(answer, before)
        check_fresh(self, lambda: carrying_order(frame, load, rule="hold"))
        check_fresh(self, lambda: carrying_order(frame, load))
        self.assertEqual(carrying_order(frame, load), carrying_order(frame, load, rule="carry"))


class TestOrderDeeds(unittest.TestCase):
    def test_small(self):
        frame, load = tower(), Load(forces(t=(1, 0), a=(0, -2)))
        self.assertEqual(order_deeds(frame, load, list("ablt")), [
            ("joint", "a", q(0), q(0), "fixed", ()), ("load", "a", q(0), q(-2)),
            ("joint", "b", q(2), q(0), "fixed", ()),
            ("joint", "l", q(0), q(1), None, (("al", "a", "rod"), ("bl", "b", "rod"))),
            ("joint", "t", q(1), q(2), None, (("lt", "l", "rod"), ("bt", "b", "rod"))), ("load", "t", q(1), q(0)),
        ])
        # An order that is not sound.
        self.assertEqual(order_deeds(frame, Load([]), list("tbla")), [
            ("joint", "t", q(1), q(2), None, ()), ("joint", "b", q(2), q(0), "fixed", (("bt", "t", "rod"),)),
            ("joint", "l", q(0), q(1), None, (("lt", "t", "rod"), ("bl", "b", "rod"))),
            ("joint", "a", q(0), q(0), "fixed", (("al", "l", "rod"),)),
        ])
        self.assertEqual(order_deeds(Frame([], []), Load([]), []), [])
        slide = Frame(joints(a=(0, 0), b=(1, 1)), bars("ab", role="tie"), grounds=[("b", point(2, 0))])
        self.assertEqual(order_deeds(slide, Load([]), ["a", "b"])[1], (
            "joint", "b", q(1), q(1), point(2, 0), (("ab", "a", "tie"),)))

    def test_many(self):
        source = random.Random(217)
        for frame, load in some_frames(150, 218):
            order = source.sample(names_of(frame), len(frame.joints))
            deeds = order_deeds(frame, load, order)
            yard = Yard.replayed(deeds, "free")
            self.assertEqual(yard.load, load)
            self.assertEqual([row[0] for row in yard.frame.joints], order)
            self.assertEqual(sorted(yard.frame.joints), sorted(frame.joints))
            self.assertEqual(sorted(map(str, yard.frame.grounds)), sorted(map(str, frame.grounds)))
            ends = {bar: {one, other, role} for bar, one, other, role in frame.bars}
            self.assertEqual({bar: {one, other, role} for bar, one, other, role in yard.frame.bars}, ends)
            for bar, one, other, _ in yard.frame.bars:
                self.assertGreater(order.index(one), order.index(other))
            self.assertEqual(len(deeds), len(order) + load.count())
            for rule in ("carry", "hold", "stand"):
                if sound(frame, load, order, rule=rule):
                    # What is sound can be built in a yard under the same rule.
                    self.assertEqual(Yard.replayed(deeds, rule).records, deeds)

    def test_errors(self):
        far = Load(forces(y=(1, 1), x=(1, 1), a=(1, 1)))
        for value in NO_FRAMES:
            check_error(self, WrongKind, {"argument": "frame"}, order_deeds, value, None, None)
        for value in NO_LOADS:
            check_error(self, WrongKind, {"argument": "load"}, order_deeds, triangle(), value, None)
        for value in NO_NAME_LISTS:
            check_error(self, WrongKind, {"argument": "order"}, order_deeds, triangle(), far, value)

    def test_fresh(self):
        order = list("ablt")
        check_fresh(self, lambda: order_deeds(tower(), Load([]), order))
        self.assertEqual(order, list("ablt"))
        self.assertEqual(standing_order(crossed_square())[0], "stuck")
