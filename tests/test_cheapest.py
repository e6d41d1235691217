import copy
import itertools
import random
import unittest

from helpers import (
    HUGE, NO_FRAMES, NO_LOADS, NO_NAMES, NO_RATIOS, bars, check_error, check_fresh, crossed_square, forces, fraction,
    joints, point, q, triangle,
)
from reference import (
    balanced, carried, check_forces, check_grounds_kept, check_motion, check_roles_kept, slow_power, slow_rates,
    some_frames,
)
from standframes.cheapest import is_lightest, is_tie_up, lightest, tie_up
from standframes.errors import OutOfBounds, RepeatedName, UnknownName, WrongKind, ZeroBar
from standframes.forces import carry, own_stresses
from standframes.frames import Frame
from standframes.loads import Load
from standframes.oneway import hold

NO_OFFERS = [
    None, 1, (), {}, "ab", [None], [()], [("n", "a", "b", "rod")], [("n", "a", "b", (1, 1))],
    [["n", "a", "b", "rod", (1, 1)]], [("n", "a", "b", "rod", (1, 1), 1)], [("n", "a", "b", (1, 1), "rod")],
    [("n", "a", "b", "rod", (1, 1)), None], (("n", "a", "b", "rod", (1, 1)),), [("n", "a", "b", "Rod", (1, 1))],
    [("n", "a", "b", None, (1, 1))], [("n", "a", "b", "", (1, 1))], [("n", "a", "b", ["rod"], (1, 1))],
    [("n", "a", "b", "fixed", (1, 1))], [("n", "a", "b", 1, (1, 1))],
]


def truss():
    """A joint between two walls, on three bars of the squared lengths 25, 16 and 25."""
    places = joints(a=(-3, 4), b=(0, 4), c=(3, 4), m=(0, 0))
    return Frame(places, bars("am", "bm", "cm"), grounds=[(name, "fixed") for name in "abc"])


def volume(frame, pulls):
    return sum(fraction(frame.squared(bar)) * abs(fraction(pull)) for bar, pull in pulls)


class TestLightest(unittest.TestCase):
    def test_small(self):
        # Straight up is lightest, though there are many forces.
        word, size, pulls, reactions, moves = lightest(truss(), Load(forces(m=(0, -8))))
        self.assertEqual((word, size, pulls), ("lightest", q(32), [("am", q(0)), ("bm", q(2)), ("cm", q(0))]))
        self.assertEqual(reactions, forces(a=(0, 0), b=(0, 8), c=(0, 0)))
        # To the side, the two outer bars share.
        word, size, pulls, reactions, moves = lightest(truss(), Load(forces(m=(6, 0))))
        self.assertEqual((size, dict(pulls)["am"], dict(pulls)["cm"]), (q(50), q(1), q(-1)))
        self.assertEqual(lightest(Frame([], []), Load([])), ("lightest", q(0), [], [], []))
        word, size, pulls, reactions, moves = lightest(triangle(), Load([]))
        self.assertEqual((word, size, reactions), ("lightest", q(0), []))
        alone = Frame(joints(a=(1, 1)), [])
        word, moves = lightest(alone, Load(forces(a=(0, 4))))
        self.assertEqual(word, "motion")
        check_motion(self, alone, Load(forces(a=(0, 4))), moves)

    def test_many(self):
        source = random.Random(191)
        words = {"lightest": 0, "motion": 0}
        lighter = 0
        for frame, load in some_frames(300, 192):
            if len(frame.bars) > 12:
                continue
            answer = lightest(frame, load)
            words[answer[0]] += 1
            self.assertIs(is_lightest(frame, load, answer), True)
            self.assertEqual(answer[0], "lightest" if carried(frame, load) else "motion")
            if answer[0] == "motion":
                check_motion(self, frame, load, answer[1])
                continue
            _, size, pulls, reactions, moves = answer
            check_forces(self, frame, load, pulls, reactions)
            self.assertEqual(fraction(size), volume(frame, pulls))
            check_grounds_kept(self, frame, moves)
            for bar, speed in slow_rates(frame, moves).items():
                self.assertLessEqual(abs(speed), fraction(frame.squared(bar)))
            self.assertEqual(slow_power(load, moves), fraction(size))
            plain = carry(frame, load)[1]
            for _ in range(3):
                other = plain
                for stress in own_stresses(frame):
                    factor = source.randint(-2, 2)
                    other = [(bar, q(fraction(x) + factor * fraction(y))) for (bar, x), (_, y) in zip(other, stress)]
                self.assertGreaterEqual(volume(frame, other), fraction(size))
                lighter += volume(frame, other) > fraction(size)
        self.assertTrue(min(words.values()) > 60 and lighter > 30, (words, lighter))

    def test_roles_have_no_effect(self):
        load = Load(forces(m=(6, 0)))
        for role in ("tie", "prop"):
            frame = Frame(truss().joints, bars("am", "bm", "cm", role=role), grounds=truss().grounds)
            self.assertEqual(lightest(frame, load), lightest(truss(), load))

    def test_is_lightest(self):
        frame, load = truss(), Load(forces(m=(0, -8)))
        good = lightest(frame, load)
        word, size, pulls, reactions, moves = good
        self.assertIs(is_lightest(frame, load, good), True)
        zeros = forces(a=(0, 0), b=(0, 0), c=(0, 0), m=(0, 0))
        other = [("am", q(1)), ("bm", q(0)), ("cm", q(1))]
        held = forces(a=(-3, 4), b=(0, 0), c=(3, 4))
        for answer in [
            None, 1, word, (), good[:4], list(good), (*good, 1), ("Lightest", *good[1:]),
            (word, q(50), other, held, moves),
            (word, q(32), other, held, moves), (word, q(31), pulls, reactions, moves),
            (word, 32, pulls, reactions, moves),
            (word, size, pulls[::-1], reactions, moves), (word, size, pulls, reactions[::-1], moves),
            (word, size, pulls, reactions, zeros), (word, size, pulls, reactions, moves[::-1]),
            (word, size, tuple(pulls), reactions, moves), (word, size, pulls, tuple(reactions), moves),
            (word, size, pulls, reactions, tuple(moves)), (word, None, None, None, None), ("motion", moves), {}, frame,
            ("motion", size, pulls, reactions, moves), (word, size, pulls, reactions), ("lightest", moves),
            (word, size, pulls, reactions, forces(a=(0, 0), b=(0, 0), c=(1, 0), m=(0, -4))),
            (word, size, pulls, reactions, forces(a=(0, 0), b=(0, 0), c=(0, 0), m=(0, -3))),
            (word, size, pulls, forces(a=(0, 0), b=(0, 7), c=(0, 0)), moves), (None, *good[1:]),
            (word, q(32), [("am", q(0)), ("bm", q(-2)), ("cm", q(0))], reactions, moves),
            (word, (32, True), pulls, reactions, moves),
        ]:
            self.assertIs(is_lightest(frame, load, answer), False)
        for value in NO_RATIOS:
            self.assertIs(is_lightest(frame, load, (word, value, pulls, reactions, moves)), False)
            self.assertIs(is_lightest(frame, load, (word, size, [pulls[0], ("bm", value), pulls[2]], reactions, moves)),
                          False)
        # Every velocity with which the power is the volume and no rate is too great: in bm the rate is 16.
        for x, y, due in [(0, -4, True), (1, -4, True), (-3, -4, True), (3, -4, True), (4, -4, False), (-4, -4, False),
                          (0, 4, False)]:
            answer = (word, size, pulls, reactions, forces(a=(0, 0), b=(0, 0), c=(0, 0), m=(x, y)))
            self.assertIs(is_lightest(frame, load, answer), due, (x, y))

    def test_is_lightest_too_fast(self):
        # The power fits, but a rate is above the squared length, or below its opposite.
        frame = Frame(joints(a=(0, 0), b=(2, 0)), bars("ab"), grounds=[("a", "fixed"), ("b", point(1, 0))])
        for x, sign in [(3, 1), (-3, -1)]:
            load = Load(forces(b=(x, 0)))
            word, size, pulls, reactions, moves = lightest(frame, load)
            self.assertEqual((size, pulls, moves), (q(6), [("ab", q(3 * sign, 2))], forces(a=(0, 0), b=(2 * sign, 0))))
        zero = lightest(frame, Load([]))
        self.assertEqual(zero[1], q(0))
        for speed, due in [(2, True), (-2, True), (0, True), (1, True), (3, False), (-3, False)]:
            moves = forces(a=(0, 0), b=(speed, 0))
            self.assertIs(is_lightest(frame, Load([]), (*zero[:4], moves)), due)
        small = Frame(joints(a=(0, 0), b=(1, 0)), bars("ab"), grounds=[("a", "fixed"), ("b", point(1, 0))])
        for speed, due in [(1, True), (-1, True), (2, False), (-2, False), (q(11, 10), False), (q(-11, 10), False)]:
            moves = [("a", q(0), q(0)), ("b", speed if isinstance(speed, tuple) else q(speed), q(0))]
            self.assertIs(is_lightest(small, Load([]), (*zero[:4], moves)), due)

    def test_motions(self):
        alone, load = Frame(joints(a=(1, 1)), []), Load(forces(a=(0, 4)))
        for x, y, due in [(0, 1, True), (5, 9, True), (0, 0, False), (0, -1, False), (1, 0, False)]:
            self.assertIs(is_lightest(alone, load, ("motion", forces(a=(x, y)))), due)
            self.assertIs(is_lightest(alone, load, ("Motion", forces(a=(x, y)))), False)
        self.assertIs(is_lightest(alone, load, ("lightest", q(0), [], [], forces(a=(0, 0)))), False)

    def test_errors(self):
        frame = triangle()
        far = Load(forces(y=(1, 1), x=(1, 1), a=(1, 1)))
        places = [(f"j{k}", q(k), q(k * k)) for k in range(6)]
        pairs = [(f"j{one}", f"j{other}") for one in range(6) for other in range(one)]
        lines = [(f"b{k}", *pair, "rod") for k, pair in enumerate(pairs)]
        for call in (lightest, lambda frame, load: is_lightest(frame, load, None)):
            for value in NO_FRAMES:
                check_error(self, WrongKind, {"argument": "frame"}, call, value, None)
            for value in NO_LOADS:
                check_error(self, WrongKind, {"argument": "load"}, call, Frame(places, lines[:13]), value)
            check_error(self, OutOfBounds, {"argument": "frame"}, call, Frame(places, lines[:13]), far)
            check_error(self, UnknownName, {"unknown": "x"}, call, frame, far)
        twelve = Frame(places, lines[:12])
        load = Load([("j0", q(1), q(0)), ("j1", q(-1), q(0))])
        self.assertIs(is_lightest(twelve, load, lightest(twelve, load)), True)

    def test_fresh(self):
        check_fresh(self, lambda: lightest(truss(), Load(forces(m=(1, 2)))))
        check_fresh(self, lambda: lightest(triangle(), Load(forces(a=(1, 2)))))


def mast():
    """A joint above three fixed ones, with no bar."""
    places = joints(a=(-3, 0), b=(3, 0), f=(0, 0), m=(0, 4))
    return Frame(places, [], grounds=[("a", "fixed"), ("b", "fixed"), ("f", "fixed")])


def stays(one=1, two=1, foot=1):
    return [("am", "a", "m", "tie", q(one)), ("bm", "b", "m", "tie", q(two)), ("fm", "f", "m", "prop", q(foot))]


def with_some(frame, offers, names):
    return Frame(frame.joints, frame.bars + [row[:4] for row in offers if row[0] in names], grounds=frame.grounds)


def subsets(offers):
    names = [row[0] for row in offers]
    return [list(some) for size in range(len(names) + 1) for some in itertools.combinations(names, size)]


def cost(offers, names):
    return sum(fraction(row[4]) for row in offers if row[0] in names)


class TestTieUp(unittest.TestCase):
    def test_small(self):
        frame = mast()
        for load, due in [
            (forces(m=(0, -4)), ["fm"]), (forces(m=(3, -4)), ["am", "fm"]), (forces(m=(-3, -4)), ["bm", "fm"]),
            (forces(m=(0, 4)), ["am", "bm"]), (forces(m=(3, 4)), ["am"]), ([], []), (forces(a=(1, 1)), []),
        ]:
            self.assertEqual(tie_up(frame, Load(load), stays())[:2], ("held", due))
        word, velocities = tie_up(frame, Load(forces(m=(3, 0))), stays()[:1])
        self.assertEqual(word, "unheld")
        self.assertEqual(tie_up(frame, Load([]), []), ("held", [], []))
        self.assertEqual(tie_up(frame, Load(forces(m=(1, 0))), [])[0], "unheld")
        self.assertEqual(tie_up(Frame([], []), Load([]), []), ("held", [], []))
        # A dear bar is replaced by two cheap ones.
        up = Load(forces(m=(0, 4)))
        offers = stays() + [("p", "f", "m", "rod", q(3))]
        offers = [row for row in offers if row[0] != "fm"]
        self.assertEqual(tie_up(frame, up, offers)[1], ["am", "bm"])
        self.assertEqual(tie_up(frame, up, offers[:2] + [("p", "f", "m", "rod", q(1))])[1], ["p"])

    def test_frame_that_holds(self):
        held = Frame(mast().joints, bars("am", "bm"), grounds=mast().grounds)
        word, chosen, failures = tie_up(held, Load(forces(m=(5, 7))), [("fm", "f", "m", "tie", q(0))])
        self.assertEqual((word, chosen, failures), ("held", [], []))

    def test_many(self):
        source = random.Random(193)
        words = {"held": 0, "unheld": 0}
        bought = 0
        signs = {"rod": -1, "tie": 1, "prop": -1}
        for k, (frame, load) in enumerate(some_frames(300, 194)):
            if k % 3:
                load = balanced(frame, [signs[row[3]] * (at % 3) for at, row in enumerate(frame.bars)])
            frame, offers = self.some_offers(frame, source)
            answer = tie_up(frame, load, offers)
            words[answer[0]] += 1
            self.assertIs(is_tie_up(frame, load, offers, answer), True)
            if answer[0] == "unheld":
                self.check_failure(frame, load, offers, [row[0] for row in offers], answer[1])
                continue
            _, chosen, failures = answer
            bought += bool(chosen)
            self.assertEqual(hold(with_some(frame, offers, chosen), load)[0], "forces")
            for names, velocities in failures:
                self.check_failure(frame, load, offers, names, velocities)
            for some in subsets(offers):
                if cost(offers, some) < cost(offers, chosen):
                    self.assertEqual(hold(with_some(frame, offers, some), load)[0], "motion")
                    self.assertTrue(any(set(some) <= set(names) for names, _ in failures))
        self.assertTrue(min(words.values()) > 40 and bought > 20, (words, bought))

    def check_failure(self, frame, load, offers, names, velocities):
        self.assertIn(names, subsets(offers))
        check_roles_kept(self, with_some(frame, offers, names), velocities)
        self.assertGreater(slow_power(load, velocities), 0)

    def some_offers(self, frame, source):
        """The frame without some of its bars, which are offered."""
        told = source.sample(frame.bars, source.randint(0, min(4, len(frame.bars))))
        offers = [(*row, q(source.randint(0, 3), source.randint(1, 2))) for row in told]
        return Frame(frame.joints, [row for row in frame.bars if row not in told], grounds=frame.grounds), offers

    def test_six_offers(self):
        frame = mast()
        more = [("n0", "a", "b", "rod", q(1, 3)), ("n1", "a", "f", "rod", q(0)), ("n2", "f", "b", "tie", q(0))]
        offers = stays() + more
        load = Load(forces(m=(3, -4)))
        answer = tie_up(frame, load, offers)
        self.assertIs(is_tie_up(frame, load, offers, answer), True)
        self.assertEqual([name for name in answer[1] if not name.startswith("n")], ["am", "fm"])
        self.assertEqual(cost(offers, answer[1]), 2)
        check_error(self, OutOfBounds, {"argument": "offers"}, tie_up, frame, load, offers + [
            ("n3", "x", "y", "rod", q(0))])

    def test_is_tie_up(self):
        frame, load, offers = mast(), Load(forces(m=(3, -4))), stays()
        good = tie_up(frame, load, offers)
        word, chosen, failures = good
        self.assertIs(is_tie_up(frame, load, offers, good), True)
        everything = ["am", "bm", "fm"]
        for answer in [
            None, 1, word, (), good[:2], list(good), (*good, 1), ("Held", chosen, failures), (word, chosen, []),
            (word, tuple(chosen), failures), (word, chosen, tuple(failures)), (word, chosen[::-1], failures), {}, frame,
            (word, ["bm", "fm"], failures), (word, ["fm"], failures), (word, everything, failures), (word, [], []),
            (word, ["am", "am", "fm"], failures), (word, ["am", "zz"], failures), (word, "am", failures),
            (word, chosen, [list(one) for one in failures]),
            (word, chosen, [(tuple(one), two) for one, two in failures]),
            (word, chosen, failures + [None]), (word, chosen, failures + [(["am", "fm"], failures[0][1])]),
            (word, chosen, failures + [(["fm", "am"], failures[0][1])]), (word, chosen, failures + [([], None)]),
            ("unheld", failures[0][1]), ("unheld", chosen, failures), (word, chosen, failures[0]), (word, None, None),
            (word, chosen, failures + [([], failures[0][1], 1)]), (None, chosen, failures), (word, [None], failures),
        ]:
            self.assertIs(is_tie_up(frame, load, offers, answer), False)

    def test_failures(self):
        frame, load, offers = mast(), Load(forces(m=(3, -4))), stays()

        def fails(*names, move):
            return (list(names), forces(a=(0, 0), b=(0, 0), f=(0, 0), m=move))

        # Without the stay it falls to the right, without the foot it falls down along the stay.
        right, down = fails("bm", "fm", move=(1, 0)), fails("am", "bm", move=(0, -1))
        self.assertIs(is_tie_up(frame, load, offers, ("held", ["am", "fm"], [right, down])), True)
        self.assertIs(is_tie_up(frame, load, offers, ("held", ["am", "fm"], [down, right, right, down])), True)
        extra = fails(move=(1, -1))
        self.assertIs(is_tie_up(frame, load, offers, ("held", ["am", "fm"], [right, extra, down])), True)
        one, two, foot = fails("am", move=(0, -1)), fails("bm", move=(1, 0)), fails("fm", move=(1, 0))
        for told in [[right, one], [foot, down], [one, two, foot]]:
            self.assertIs(is_tie_up(frame, load, offers, ("held", ["am", "fm"], told)), True)
        for wrong in [[right], [down], [right, down, fails("am", move=(3, 0))], [right, down, fails("bm", move=(0, 0))],
                      [one, two], [foot, one], [right, extra], [extra]]:
            self.assertIs(is_tie_up(frame, load, offers, ("held", ["am", "fm"], wrong)), False)
        # Only cheaper offers must have failed.
        dear = stays(one=1, two=5, foot=1)
        self.assertIs(is_tie_up(frame, load, dear, ("held", ["am", "fm"], [
            fails("fm", move=(1, 0)), fails("am", "bm", move=(0, -1))])), True)
        free = stays(one=0, two=0, foot=0)
        self.assertIs(is_tie_up(frame, load, free, ("held", ["am", "fm"], [])), True)
        self.assertIs(is_tie_up(frame, load, free, ("held", ["am", "bm", "fm"], [])), True)
        self.assertIs(is_tie_up(frame, load, free, ("held", ["fm"], [])), False)
        self.assertIs(is_tie_up(frame, load, free, ("held", ["bm", "fm"], [right])), False)
        # Offers of the cost zero make nothing dearer, so they need no failure.
        self.assertIs(is_tie_up(frame, load, stays(two=0), ("held", ["am", "bm", "fm"], [right, down])), True)
        self.assertIs(is_tie_up(frame, load, stays(two=1), ("held", ["am", "bm", "fm"], [right, down])), False)

    def test_unheld(self):
        frame, load, offers = mast(), Load(forces(m=(3, 0))), stays()[1:]
        word, velocities = tie_up(frame, load, offers)
        self.assertEqual(word, "unheld")
        for move, due in [((1, 0), True), ((0, 0), False), ((-1, 0), False), ((1, -1), False), ((4, 3), True),
                          ((3, 1), True), ((3, 3), False)]:
            moves = forces(a=(0, 0), b=(0, 0), f=(0, 0), m=move)
            self.assertIs(is_tie_up(frame, load, offers, ("unheld", moves)), due, move)
            self.assertIs(is_tie_up(frame, load, offers, ("motion", moves)), False)
        for answer in [("unheld",), ("unheld", velocities, []), ["unheld", velocities], ("unheld", None),
                       ("unheld", tuple(velocities)), ("held", velocities), ("Unheld", velocities)]:
            self.assertIs(is_tie_up(frame, load, offers, answer), False)

    def test_errors(self):
        frame = Frame(mast().joints, bars("am"), grounds=mast().grounds)
        load, far, one = Load([]), Load(forces(y=(1, 1), x=(1, 1), a=(1, 1))), q(1)
        for call in (tie_up, lambda frame, load, offers: is_tie_up(frame, load, offers, None)):
            for value in NO_FRAMES:
                check_error(self, WrongKind, {"argument": "frame"}, call, value, None, None)
            for value in NO_LOADS:
                check_error(self, WrongKind, {"argument": "load"}, call, frame, value, None)
            self.check_kinds(call, frame, far)
            check_error(self, OutOfBounds, {"argument": "offers"}, call, frame, far, [("n", "x", "x", "rod", one)] * 7)
            for offers, name in [
                ([("n", "x", "x", "rod", one)] * 6, "n"), ([("k", "m", "a", "tie", one)], "k"),
                ([("am", "x", "y", "tie", one)], "am"),
                ([("k", "x", "y", "tie", one), ("l", "y", "x", "rod", one)], "l"),
            ]:
                check_error(self, RepeatedName, {"repeated": name}, call, frame, far, offers)
            check_error(self, UnknownName, {"unknown": "x"}, call, frame, far, [("k", "u", "v", "rod", one)])
            check_error(self, UnknownName, {"unknown": "u"}, call, frame, load, [("k", "u", "v", "rod", one)])
            check_error(self, UnknownName, {"unknown": "v"}, call, frame, load, [
                ("l", "a", "a", "rod", one), ("k", "b", "v", "rod", one)])
            check_error(self, ZeroBar, {"subject": "l"}, call, frame, load, [
                ("k", "a", "b", "rod", one), ("l", "b", "b", "rod", one)])

    def check_kinds(self, call, frame, far):
        for value in NO_OFFERS:
            check_error(self, WrongKind, {"argument": "offers"}, call, frame, far, value)
        for value in NO_NAMES:
            for item in [(value, "a", "b", "rod", q(1)), ("n", value, "b", "rod", q(1)),
                ("n", "a", value, "rod", q(1))]:
                check_error(self, WrongKind, {"argument": "offers"}, call, frame, far, [item] * 7)
        for value in [*NO_RATIOS, q(-1), q(-1, 9)]:
            check_error(self, WrongKind, {"argument": "offers"}, call, frame, far, [("n", "a", "b", "rod", value)])

    def test_bounds_of_the_frame(self):
        places = [(f"j{k}", q(k), q(k * k)) for k in range(12)]
        pairs = [(f"j{one}", f"j{other}") for one in range(12) for other in range(one)]
        lines = [(f"b{k}", *pair, "rod") for k, pair in enumerate(pairs)]
        offers = [(*row, q(1)) for row in lines[28:31]]
        self.assertEqual(tie_up(Frame(places, lines[:28]), Load([]), offers[:2]), ("held", [], []))
        check_error(self, OutOfBounds, {"argument": "offers"}, tie_up, Frame(places, lines[:28]), Load([]), offers)
        check_error(self, OutOfBounds, {"argument": "offers"}, is_tie_up, Frame(places, lines[:28]), Load([]), offers,
            1)

    def test_nothing_changes(self):
        frame, load, offers = mast(), Load(forces(m=(3, -4))), stays()
        before = copy.deepcopy(offers)
        answer = tie_up(frame, load, offers)
        is_tie_up(frame, load, offers, answer)
        self.assertEqual((offers, frame), (before, mast()))
        check_fresh(self, lambda: tie_up(frame, load, offers))
        check_fresh(self, lambda: tie_up(crossed_square(), Load(forces(a=(1, 1))), []))

    def test_long_numbers(self):
        frame, load = mast(), Load([("m", (3 * HUGE, 1), (-4 * HUGE, 1))])
        self.assertEqual(tie_up(frame, load, stays(one=HUGE))[1], ["am", "fm"])
        self.assertEqual(lightest(truss(), Load([("m", q(0), (-HUGE, 3))]))[1], q(4 * HUGE, 3))
