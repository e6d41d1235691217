import copy
import random
import unittest
from fractions import Fraction

from helpers import (
    NO_FRAMES, NO_LOADS, NO_NAMES, NO_RATIOS, bars, check_error, check_fresh, crossed_square, forces, fraction, joints,
    point, q, triangle,
)
from reference import (
    balanced, carried, check_forces, check_grounds_kept, check_motion, slow_power, slow_rates, some_frames,
)
from standframes.errors import OutOfBounds, RepeatedName, UnknownName, WrongKind
from standframes.forces import carry
from standframes.frames import Frame
from standframes.loads import Load
from standframes.oneway import hold
from standframes.strength import (
    collapse, dissipation, energy, is_collapse, is_sag, role_limits, sag,
)

NO_BOUNDS = [value for value in NO_RATIOS if value is not None] + [q(-1), q(-1, 7)]


def post():
    """A joint on one bar under a fixed one, that can also slide up and down."""
    return Frame(joints(a=(0, 2), b=(0, 0)), bars("ab"), grounds=[("a", "fixed"), ("b", point(0, 1))])


def slow_dissipation(frame, limits, velocities):
    told = {bar: (push, pull) for bar, push, pull in limits}
    amount = 0
    for bar, speed in slow_rates(frame, velocities).items():
        push, pull = told.get(bar, (None, None))
        if speed > 0:
            if pull is None:
                return None
            amount += fraction(pull) * speed
        if speed < 0:
            if push is None:
                return None
            amount -= fraction(push) * speed
    return amount


def some_limits(frame, source):
    limits = []
    for row in source.sample(frame.bars, source.randint(0, len(frame.bars))):
        push, pull = (source.choice([None, q(0), q(1), q(source.randint(0, 5), 3)]) for _ in "ab")
        limits.append((row[0], push, pull))
    return limits


class TestCollapse(unittest.TestCase):
    def test_post(self):
        down = Load(forces(b=(0, -1)))
        for limits, factor in [
            ([("ab", q(1), q(3))], 6), ([("ab", q(1), q(0))], 0), ([("ab", None, q(1, 4))], Fraction(1, 2)),
        ]:
            word, found, pulls, reactions, velocities = collapse(post(), down, limits)
            self.assertEqual((word, found), ("falls", q(factor)))
            self.assertEqual(pulls, [("ab", q(Fraction(factor, 2)))])
            self.assertEqual(reactions, forces(a=(0, factor), b=(0, 0)))
            self.assertEqual(velocities, forces(a=(0, 0), b=(0, -1)))
        for limits in ([], [("ab", None, None)], [("ab", q(0), None)], [("ab", q(5), None)]):
            self.assertEqual(
                collapse(post(), down, limits), ("endless", [("ab", q(1, 2))], forces(a=(0, 1), b=(0, 0))))
        up = Load(forces(b=(0, 3)))
        self.assertEqual(collapse(post(), up, [("ab", q(1), None)])[:2], ("falls", q(2, 3)))
        self.assertEqual(collapse(post(), up, [("ab", None, q(1))])[0], "endless")

    def test_edges(self):
        # The zero load is endless, whatever the limits.
        for frame in (Frame([], []), triangle(), post(), Frame(joints(a=(1, 1)), [])):
            limits = [(row[0], q(0), q(0)) for row in frame.bars]
            word, pulls, reactions = collapse(frame, Load([]), limits)
            self.assertEqual(word, "endless")
            check_forces(self, frame, Load([]), pulls, reactions)
            self.assertTrue(all(pull == q(0) for _, pull in pulls))
        # A load that no forces carry falls at once.
        alone, load = Frame(joints(a=(1, 1)), []), Load(forces(a=(3, 4)))
        word, factor, pulls, reactions, velocities = collapse(alone, load, [])
        self.assertEqual((word, factor, pulls, reactions), ("falls", q(0), [], []))
        self.assertEqual(slow_power(load, velocities), 1)
        sideways = Load(forces(a=(1, 0), b=(0, 1), c=(2, 2)))
        answer = collapse(triangle(), sideways, [("ab", q(3), None), ("ca", q(1), q(1))])
        self.assertEqual(answer[:2], ("falls", q(0)))
        self.check_fall(triangle(), sideways, [("ab", q(3), None), ("ca", q(1), q(1))], answer)
        # A load on a ground alone.
        held = Frame(joints(a=(1, 1)), [], grounds=[("a", "fixed")])
        self.assertEqual(collapse(held, load, []), ("endless", [], forces(a=(-3, -4))))

    def test_two_bars_share(self):
        # Both bars give way at once: the one at its pull, the other at its push.
        frame = Frame(joints(a=(0, 2), b=(0, 0), c=(0, -1)), bars("ab", "bc"),
                      grounds=[("a", "fixed"), ("c", "fixed"), ("b", point(0, 3))])
        load = Load(forces(b=(0, -1)))
        limits = [("bc", q(5), q(9)), ("ab", q(9), q(4))]
        answer = collapse(frame, load, limits)
        self.assertEqual(answer[:3], ("falls", q(13), [("ab", q(4)), ("bc", q(-5))]))
        self.check_fall(frame, load, limits, answer)
        word, factor, pulls, reactions, velocities = answer
        self.assertIs(is_collapse(frame, load, limits, answer), True)
        # Other forces for the same load, of which one is more than its limit.
        for ab, bc in ((5, -3), (3, -7), (Fraction(9, 2), -4), (Fraction(7, 2), -6)):
            wrong = [("ab", q(ab)), ("bc", q(bc))]
            held = forces(a=(0, 2 * ab), c=(0, -bc), b=(0, 0))
            check_forces(self, frame, load * factor, wrong, held)
            self.assertIs(is_collapse(frame, load, limits, (word, factor, wrong, held, velocities)), False)
        self.assertEqual(collapse(frame, load, [("bc", q(5), None)])[0], "endless")
        self.assertEqual(collapse(frame, load, [("bc", None, q(0)), ("ab", q(1), q(1))])[0], "endless")

    def test_own_stress_helps(self):
        # Six bars with the same limits: the factor is not that of the plain solution.
        frame = crossed_square(grounds=[("a", "fixed"), ("d", point(0, 1))])
        load = Load(forces(b=(0, -1)))
        limits = [(row[0], q(1), q(1)) for row in frame.bars]
        answer = collapse(frame, load, limits)
        self.check_fall(frame, load, limits, answer)
        plain = max(abs(fraction(pull)) for _, pull in carry(frame, load)[1])
        self.assertGreater(fraction(answer[1]), 1 / plain)

    def check_fall(self, frame, load, limits, answer):
        word, factor, pulls, reactions, velocities = answer
        self.assertEqual(word, "falls")
        check_forces(self, frame, load * factor, pulls, reactions)
        told = dict((bar, (push, pull)) for bar, push, pull in limits)
        for bar, pull in pulls:
            push, most = told.get(bar, (None, None))
            self.assertTrue(push is None or fraction(pull) >= -fraction(push))
            self.assertTrue(most is None or fraction(pull) <= fraction(most))
        check_grounds_kept(self, frame, velocities)
        self.assertEqual(slow_power(load, velocities), 1)
        self.assertEqual(slow_dissipation(frame, limits, velocities), fraction(factor))
        self.assertGreaterEqual(factor[0], 0)

    def check_endless(self, frame, load, limits, answer):
        word, pulls, reactions = answer
        self.assertEqual(word, "endless")
        check_forces(self, frame, load, pulls, reactions)
        told = dict((bar, (push, pull)) for bar, push, pull in limits)
        for bar, pull in pulls:
            push, most = told.get(bar, (None, None))
            self.assertTrue(pull[0] <= 0 or most is None)
            self.assertTrue(pull[0] >= 0 or push is None)

    def test_many(self):
        source = random.Random(101)
        words = {"endless": 0, "falls": 0, "zero": 0}
        for k, (frame, load) in enumerate(some_frames(500, 102)):
            limits = some_limits(frame, source)
            if k % 3:
                load = balanced(frame, [source.randint(-2, 3) for _ in frame.bars])
            answer = collapse(frame, load, limits)
            if answer[0] == "falls":
                self.check_fall(frame, load, limits, answer)
                words["falls" if answer[1] != q(0) else "zero"] += 1
            else:
                self.check_endless(frame, load, limits, answer)
                words["endless"] += 1
            if not carried(frame, load):
                self.assertEqual(answer[:2], ("falls", q(0)))
            self.assertIs(is_collapse(frame, load, limits, answer), True)
            held = hold(frame, load)[0] == "forces"
            self.assertIs(collapse(frame, load, role_limits(frame))[0] == "endless", held)
        self.assertTrue(min(words.values()) > 30, words)

    def test_limits_for_each_bar(self):
        # All bars with both limits: falls, unless the load is borne by the grounds alone.
        source = random.Random(103)
        for frame, load in some_frames(120, 104):
            limits = [(row[0], q(source.randint(0, 6), 5), q(source.randint(0, 6), 5)) for row in frame.bars]
            answer = collapse(frame, load, limits)
            if answer[0] == "falls":
                self.check_fall(frame, load, limits, answer)
            else:
                self.assertTrue(all(pull == q(0) for _, pull in answer[1]))
                self.check_endless(frame, load, limits, answer)
            self.assertIs(is_collapse(frame, load, limits[::-1], answer), True)


class TestIsCollapse(unittest.TestCase):
    def test_falls(self):
        frame, load = post(), Load(forces(b=(0, -1)))
        limits = [("ab", q(1), q(3))]
        good = ("falls", q(6), [("ab", q(3))], forces(a=(0, 6), b=(0, 0)), forces(a=(0, 0), b=(0, -1)))
        self.assertIs(is_collapse(frame, load, limits, good), True)
        self.assertIs(is_collapse(frame, load, [("ab", q(1), q(2))], good), False)
        self.assertIs(is_collapse(frame, load, [("ab", q(1), q(4))], good), False)
        self.assertIs(is_collapse(frame, load, [("ab", q(1), None)], good), False)
        self.assertIs(is_collapse(frame, load, [("ab", None, q(3))], good), True)
        self.assertIs(is_collapse(frame, load, [], good), False)
        _, factor, pulls, reactions, moves = good
        for answer in [
            None, True, 6, "falls", (), list(good), good[:4], (*good, 1), good[:3], ("endless", *good[1:]), frame, {},
            ("falls", q(5), [("ab", q(5, 2))], forces(a=(0, 5), b=(0, 0)), moves), ("Falls", *good[1:]),
            ("falls", q(8), [("ab", q(4))], forces(a=(0, 8), b=(0, 0)), moves), ("falls", q(5), *good[2:]),
            ("falls", factor, [("ab", q(2))], reactions, moves), ("falls", factor, pulls, reactions, moves[::-1]),
            ("falls", factor, pulls, forces(a=(0, 5), b=(0, 0)), moves), ("falls", factor, pulls[:0], reactions, moves),
            ("falls", factor, pulls, reactions, forces(a=(0, 0), b=(0, -2))), ("falls", None, *good[2:]),
            ("falls", factor, pulls, reactions, forces(a=(0, 0), b=(1, -1))), ("falls", factor, None, None, None),
            ("falls", factor, pulls, reactions, forces(a=(0, 1), b=(0, -1))),
            ("falls", factor, reactions, pulls, moves),
            ("falls", factor, tuple(pulls), reactions, moves), ("falls", factor, pulls, tuple(reactions), moves),
            ("falls", factor, pulls, reactions, tuple(moves)), ("falls", factor, pulls, reactions[::-1], moves),
        ]:
            self.assertIs(is_collapse(frame, load, limits, answer), False)
        for value in NO_RATIOS + [q(-6)]:
            self.assertIs(is_collapse(frame, load, limits, ("falls", value, *good[2:])), False)
        for value in NO_RATIOS:
            self.assertIs(is_collapse(frame, load, limits, ("falls", factor, [("ab", value)], reactions, moves)), False)
            wrong = ("falls", factor, pulls, reactions, [moves[0], ("b", q(0), value)])
            self.assertIs(is_collapse(frame, load, limits, wrong), False)

    def test_no_negative_factor(self):
        # A load that is carried less than not at all: the limits do not even allow zero pulls to be exceeded.
        frame, load = post(), Load(forces(b=(0, 1)))
        wrong = ("falls", q(-6), [("ab", q(3))], forces(a=(0, 6), b=(0, 0)), forces(a=(0, 0), b=(0, 1)))
        self.assertIs(is_collapse(frame, load, [("ab", q(0), q(3))], wrong), False)
        good = ("falls", q(0), [("ab", q(0))], forces(a=(0, 0), b=(0, 0)), forces(a=(0, 0), b=(0, 1)))
        self.assertIs(is_collapse(frame, load, [("ab", q(0), q(3))], good), True)
        zero = Load([])
        self.assertIs(is_collapse(frame, zero, [("ab", q(0), q(3))], good), False)

    def test_endless(self):
        frame, load = post(), Load(forces(b=(0, -1)))
        good = ("endless", [("ab", q(1, 2))], forces(a=(0, 1), b=(0, 0)))
        for limits, due in [
            ([], True), ([("ab", None, None)], True), ([("ab", q(0), None)], True), ([("ab", q(4), None)], True),
            ([("ab", None, q(4))], False), ([("ab", None, q(0))], False), ([("ab", q(9), q(9))], False),
        ]:
            self.assertIs(is_collapse(frame, load, limits, good), due)
        up = ("endless", [("ab", q(-1, 2))], forces(a=(0, -1), b=(0, 0)))
        for limits, due in [([], True), ([("ab", q(4), None)], False), ([("ab", None, q(0))], True)]:
            self.assertIs(is_collapse(frame, -load, limits, up), due)
            self.assertIs(is_collapse(frame, load, limits, up), False)
        zero = ("endless", [("ab", q(0))], forces(a=(0, 0), b=(0, 0)))
        self.assertIs(is_collapse(frame, Load([]), [("ab", q(0), q(0))], zero), True)
        self.assertIs(is_collapse(frame, load, [], zero), False)
        _, pulls, reactions = good
        for answer in [
            None, (), good[:2], list(good), (*good, []), ("forces", pulls, reactions), ("Endless", pulls, reactions),
            ("endless", reactions, pulls), ("endless", tuple(pulls), reactions), ("endless", pulls, tuple(reactions)),
            ("endless", pulls, reactions[::-1]), ("endless", [("ba", q(1, 2))], reactions), ("endless", None, None),
            ("endless", [("ab", q(1))], reactions), ("endless", pulls, forces(a=(0, 2), b=(0, 0))),
            (True, pulls, reactions),
            ("endless", pulls, forces(a=(0, 0), b=(0, 1))), (frame, pulls, reactions),
        ]:
            self.assertIs(is_collapse(frame, load, [], answer), False)

    def test_errors(self):
        frame, load = triangle(), Load(forces(a=(1, 1)))
        far = Load(forces(y=(1, 1), x=(1, 1), a=(1, 1)))
        for call in (collapse, lambda frame, load, limits: is_collapse(frame, load, limits, None)):
            for value in NO_FRAMES:
                check_error(self, WrongKind, {"argument": "frame"}, call, value, None, None)
            for value in NO_LOADS:
                check_error(self, WrongKind, {"argument": "load"}, call, frame, value, None)
            self.check_limit_kinds(call, frame, far)
            for names, kind, told in [
                (["ab"] * 31, OutOfBounds, {"argument": "limits"}), ([f"b{k}" for k in range(31)], OutOfBounds, {}),
                (["zz"] * 30, RepeatedName, {"repeated": "zz"}),
                (["ab", "zz", "bc", "zz", "ab"], RepeatedName, {"repeated": "zz"}),
            ]:
                check_error(self, kind, told, call, frame, far, [(name, None, q(1)) for name in names])
            check_error(self, UnknownName, {"unknown": "x"}, call, frame, far, [("zz", q(1), q(1))])
            limits = [("ab", q(1), q(1)), ("ba", None, None), ("a", None, None)]
            check_error(self, UnknownName, {"unknown": "ba"}, call, frame, load, limits)

    def check_limit_kinds(self, call, frame, *rest):
        for value in [
            None, 1, (), {}, "ab", [None], [["ab", None, None]], [("ab", None)], [("ab", None, None, None)], [()],
            ["ab"],
            [("ab", q(1), q(1)), None], frame, [("ab",)], [(None, None, None)],
        ]:
            check_error(self, WrongKind, {"argument": "limits"}, call, frame, *rest, value)
        for value in NO_NAMES:
            check_error(self, WrongKind, {"argument": "limits"}, call, frame, *rest, [(value, None, None)] * 40)
        for value in NO_BOUNDS:
            check_error(self, WrongKind, {"argument": "limits"}, call, frame, *rest, [("zz", value, None)])
            check_error(self, WrongKind, {"argument": "limits"}, call, frame, *rest, [("zz", None, value)])


class TestDissipation(unittest.TestCase):
    def test_small(self):
        frame = Frame(joints(a=(0, 0), b=(2, 0), c=(2, 3)), bars("ab", "bc", "ca"), grounds=[("a", "fixed")])
        # The rates are 4 in ab, -9 in bc and 0 in ca; the ground is not kept.
        moves = forces(a=(-2, 0), b=(0, 3), c=(-2, 0))
        self.assertEqual(slow_rates(frame, moves), {"ab": 4, "bc": -9, "ca": 0})
        for limits, due in [
            ([("ab", q(7), q(2)), ("bc", q(1, 3), q(5)), ("ca", None, None)], q(11)),
            ([("bc", q(1, 3), None), ("ab", None, q(2))], q(11)), ([("ab", None, q(0)), ("bc", q(0), None)], q(0)),
            ([], None), ([("ab", q(1), None), ("bc", q(1), q(1))], None),
            ([("ab", q(1), q(1)), ("bc", None, q(1))], None),
            ([("ab", q(1), q(1))], None), ([("ca", q(1), q(1))], None),
        ]:
            self.assertEqual(dissipation(frame, limits, moves), due)
        still = forces(a=(4, 5), b=(4, 5), c=(4, 5))
        self.assertEqual(dissipation(frame, [], still), q(0))
        self.assertEqual(dissipation(Frame([], []), [], []), q(0))

    def test_many(self):
        source = random.Random(105)
        words = {True: 0, False: 0}
        for frame, _ in some_frames(150, 106):
            limits = some_limits(frame, source)
            moves = [(row[0], q(source.randint(-2, 2)), q(source.randint(-2, 2), 3)) for row in frame.joints]
            due = slow_dissipation(frame, limits, moves)
            self.assertEqual(dissipation(frame, limits, moves), None if due is None else q(due))
            words[due is None] += 1
        self.assertTrue(min(words.values()) > 20, words)

    def test_errors(self):
        frame = triangle()
        good = forces(a=(1, 1), b=(0, 0), c=(0, 0))
        for value in NO_FRAMES:
            check_error(self, WrongKind, {"argument": "frame"}, dissipation, value, None, None)
        self.check_kinds(frame)
        for value in [None, good[:2], good[::-1], tuple(good), [], {}]:
            many = [("zz", None, None)] * 31
            check_error(self, WrongKind, {"argument": "velocities"}, dissipation, frame, many, value)
        for value in NO_RATIOS:
            wrong = [*good[:2], ("c", value, q(0))]
            check_error(self, WrongKind, {"argument": "velocities"}, dissipation, frame, [], wrong)
        check_error(self, OutOfBounds, {"argument": "limits"}, dissipation, frame, [("zz", None, None)] * 31, good)
        check_error(self, RepeatedName, {"repeated": "zz"}, dissipation, frame, [("zz", None, None)] * 30, good)
        limits = [("ab", None, None), ("zz", None, None)]
        check_error(self, UnknownName, {"unknown": "zz"}, dissipation, frame, limits, good)

    def check_kinds(self, frame):
        TestIsCollapse.check_limit_kinds(self, lambda frame, limits: dissipation(frame, limits, None), frame)

    def test_role_limits(self):
        frame = Frame(triangle().joints, bars("ab", role="tie") + bars("bc") + bars("ca", role="prop"))
        self.assertEqual(role_limits(frame), [("ab", q(0), None), ("ca", None, q(0))])
        self.assertEqual(role_limits(Frame(frame.joints, frame.bars[::-1])), [("ca", None, q(0)), ("ab", q(0), None)])
        self.assertEqual(role_limits(triangle()), [])
        self.assertEqual(role_limits(Frame([], [])), [])
        for value in NO_FRAMES:
            check_error(self, WrongKind, {"argument": "frame"}, role_limits, value)


class TestSag(unittest.TestCase):
    def test_post(self):
        down = Load(forces(b=(0, -3)))
        for stiffness in (1, 5, Fraction(2, 7)):
            # The pull is 3/2, and twice the speed is the rate.
            due = forces(a=(0, 0), b=(0, -Fraction(3, 4) / stiffness))
            found = sag(post(), down, [("ab", q(stiffness))])
            self.assertEqual(found, ("sags", due, [("ab", q(3, 2))], forces(a=(0, 3), b=(0, 0))))

    def test_springs_share(self):
        # Between two springs of stiffness 1 and 3: each takes its share of the load.
        frame = Frame(joints(a=(0, 2), b=(0, 0), c=(0, -2)), bars("ab", "bc"),
                      grounds=[("a", "fixed"), ("c", "fixed"), ("b", point(0, 1))])
        found = sag(frame, Load(forces(b=(0, -8))), [("ab", q(1)), ("bc", q(3))])
        self.assertEqual(found[2], [("ab", q(1)), ("bc", q(-3))])
        self.assertEqual(found[3], forces(a=(0, 2), c=(0, 6), b=(0, 0)))

    def test_edges(self):
        self.assertEqual(sag(Frame([], []), Load([]), []), ("sags", [], [], []))
        alone = Frame(joints(a=(1, 1)), [])
        self.assertEqual(sag(alone, Load([]), [])[0], "sags")
        word, velocities = sag(alone, Load(forces(a=(2, 0))), [])
        self.assertEqual(word, "motion")
        check_motion(self, alone, Load(forces(a=(2, 0))), velocities)
        held = Frame(joints(a=(1, 1)), [], grounds=[("a", point(1, 1))])
        self.assertEqual(sag(held, Load(forces(a=(2, -2))), []), ("sags", forces(a=(0, 0)), [], forces(a=(-2, 2))))
        # A frame that moves, but not under this load.
        pair = Frame(joints(a=(0, 0), b=(1, 0)), bars("ab"))
        load = Load(forces(a=(-1, 0), b=(1, 0)))
        word, velocities, pulls, reactions = sag(pair, load, [("ab", q(2))])
        self.assertEqual((word, pulls, reactions), ("sags", [("ab", q(1))], []))
        self.assertEqual(slow_rates(pair, velocities), {"ab": Fraction(1, 2)})

    def test_many(self):
        source = random.Random(107)
        words = {"sags": 0, "motion": 0}
        spare = 0
        for frame, load in some_frames(250, 108):
            springs = [(row[0], q(source.randint(1, 6), source.randint(1, 4))) for row in frame.bars]
            answer = sag(frame, load, springs)
            words[answer[0]] += 1
            self.assertEqual(answer[0], "sags" if carried(frame, load) else "motion")
            self.assertIs(is_sag(frame, load, springs, answer), True)
            if answer[0] == "motion":
                check_motion(self, frame, load, answer[1])
                continue
            _, velocities, pulls, reactions = answer
            check_grounds_kept(self, frame, velocities)
            check_forces(self, frame, load, pulls, reactions)
            rates = slow_rates(frame, velocities)
            self.assertEqual(pulls, [(bar, q(fraction(stiffness) * rates[bar])) for bar, stiffness in springs])
            least = sum(fraction(pull) ** 2 / fraction(stiffness) for (_, pull), (_, stiffness) in zip(pulls, springs))
            self.assertEqual(energy(frame, springs, pulls), q(least))
            self.assertEqual(least, slow_power(load, velocities))
            plain = carry(frame, load)[1]
            if plain != pulls:
                spare += 1
                self.assertGreater(fraction(energy(frame, springs, plain)), least)
        self.assertTrue(min(words.values()) > 30 and spare > 20, (words, spare))

    def test_is_sag(self):
        frame, load, springs = post(), Load(forces(b=(0, -3))), [("ab", q(5))]
        good = sag(frame, load, springs)
        self.assertIs(is_sag(frame, load, springs, good), True)
        _, moves, pulls, reactions = good
        self.assertIs(is_sag(frame, load, [("ab", q(4))], good), False)
        self.assertIs(is_sag(frame, load * q(2), springs, good), False)
        for answer in [
            None, True, "sags", (), list(good), good[:3], (*good, []), ("motion", moves), ("forces", pulls, reactions),
            {},
            ("Sags", *good[1:]), ("motion", moves, pulls, reactions), ("sags", moves[::-1], pulls, reactions), frame,
            ("sags", forces(a=(0, 0), b=(1, 0)), pulls, reactions), ("sags", moves, [("ab", q(1))], reactions),
            ("sags", None, pulls, reactions), ("sags", moves, None, reactions), ("sags", moves, pulls, []),
            ("sags", moves, pulls, forces(a=(0, 2), b=(0, 0))), ("sags", moves, pulls, reactions[::-1]),
            ("sags", tuple(moves), pulls, reactions), ("sags", moves, tuple(pulls), reactions),
            ("sags", pulls, pulls, pulls),
            ("sags", moves, pulls, tuple(reactions)), ("motion", forces(a=(0, 0), b=(0, -1))), ("motion", None),
            ("sags", [("a", q(0), q(0)), ("b", q(1), moves[1][2])], pulls, reactions),
            ("sags", [("a", q(0), q(1)), ("b", q(0), q(fraction(moves[1][2]) + 1))], pulls, reactions),
        ]:
            self.assertIs(is_sag(frame, load, springs, answer), False)
        for value in NO_RATIOS:
            self.assertIs(is_sag(frame, load, springs, ("sags", moves, [("ab", value)], reactions)), False)
            wrong = [moves[0], ("b", value, q(0))]
            self.assertIs(is_sag(frame, load, springs, ("sags", wrong, pulls, reactions)), False)
        # Any motion of the frame may be added.
        pair = Frame(joints(a=(0, 0), b=(1, 0)), bars("ab"))
        load = Load(forces(a=(-1, 0), b=(1, 0)))
        for a, b, due in [((0, 0), (1, 0), True), ((5, 7), (6, -3), True), ((0, 0), (2, 0), False)]:
            answer = ("sags", forces(a=a, b=b), [("ab", q(1))], [])
            self.assertIs(is_sag(pair, load, [("ab", q(1))], answer), due)
        answer = ("sags", forces(a=(0, 0), b=(1, 0)), [("ab", (True, 1))], [])
        self.assertIs(is_sag(pair, load, [("ab", q(1))], answer), False)
        answer = ("motion", forces(a=(0, 0), b=(0, 9)))
        self.assertIs(is_sag(pair, Load(forces(b=(0, 1))), [("ab", q(1))], answer), True)
        for word in ("Motion", "", "sags", None, True):
            self.assertIs(is_sag(pair, Load(forces(b=(0, 1))), [("ab", q(1))], (word, answer[1])), False)
        self.assertIs(is_sag(pair, Load(forces(b=(0, -1))), [("ab", q(1))], answer), False)

    def test_roles_have_no_effect(self):
        for role in ("tie", "prop"):
            frame = Frame(post().joints, bars("ab", role=role), grounds=post().grounds)
            for y in (-3, 3):
                load = Load(forces(b=(0, y)))
                self.assertEqual(sag(frame, load, [("ab", q(2))]), sag(post(), load, [("ab", q(2))]))
                self.assertEqual(collapse(frame, load, []), collapse(post(), load, []))

    def test_energy(self):
        frame = triangle()
        springs = [("ab", q(1)), ("bc", q(2, 3)), ("ca", q(7))]
        self.assertEqual(energy(frame, springs, [("ab", q(-3)), ("bc", q(1, 2)), ("ca", q(0))]), q(9 + Fraction(3, 8)))
        self.assertEqual(energy(Frame([], []), [], []), q(0))

    def test_errors(self):
        frame, load = triangle(), Load(forces(a=(1, 1)))
        good = [("ab", q(1)), ("bc", q(2)), ("ca", q(3))]
        far = Load(forces(y=(1, 1), x=(1, 1), a=(1, 1)))
        wrong = [
            None, good[::-1], good[:2], tuple(good), [], good + good[:1], {}, "ab", frame,
            *[[*good[:2], ("ca", value)] for value in [*NO_RATIOS, q(0), q(-1), q(-1, 9)]],
        ]
        for call in (sag, lambda frame, load, springs: is_sag(frame, load, springs, None)):
            for value in NO_FRAMES:
                check_error(self, WrongKind, {"argument": "frame"}, call, value, None, None)
            for value in NO_LOADS:
                check_error(self, WrongKind, {"argument": "load"}, call, frame, value, None)
            for value in wrong:
                check_error(self, WrongKind, {"argument": "springs"}, call, frame, far, value)
            check_error(self, UnknownName, {"unknown": "x"}, call, frame, far, good)
        for value in NO_FRAMES:
            check_error(self, WrongKind, {"argument": "frame"}, energy, value, None, None)
        for value in wrong:
            check_error(self, WrongKind, {"argument": "springs"}, energy, frame, value, None)
        for value in [None, good[::-1], good[:2], tuple(good), [], *[[*good[:2], ("ca", one)] for one in NO_RATIOS]]:
            check_error(self, WrongKind, {"argument": "pulls"}, energy, frame, good, value)
        self.assertEqual(sag(frame, load, good)[0], "motion")


class TestCopies(unittest.TestCase):
    def test_fresh(self):
        down = Load(forces(b=(0, -1)))
        check_fresh(self, lambda: collapse(post(), down, [("ab", q(1), q(3))]))
        check_fresh(self, lambda: collapse(post(), down, []))
        check_fresh(self, lambda: sag(post(), down, [("ab", q(3))]))
        check_fresh(self, lambda: sag(triangle(), down, [("ab", q(3)), ("bc", q(1)), ("ca", q(1))]))
        check_fresh(self, lambda: role_limits(Frame(post().joints, bars("ab", role="tie"))))

    def test_arguments_stay(self):
        frame, load = post(), Load(forces(b=(0, -1)))
        limits, springs = [("ab", q(1), q(3))], [("ab", q(2))]
        answers = [collapse(frame, load, limits), sag(frame, load, springs)]
        before = copy.deepcopy([limits, springs, answers])
        is_collapse(frame, load, limits, answers[0])
        is_sag(frame, load, springs, answers[1])
        dissipation(frame, limits, answers[0][4])
        energy(frame, springs, answers[1][2])
        self.assertEqual(before, [limits, springs, answers])
        self.assertEqual((frame, load.entries), (post(), forces(b=(0, -1))))
