import copy
import itertools
import unittest
from fractions import Fraction

from helpers import (
    NO_FRAMES, NO_NAMES, NO_POINTS, NO_RATIOS, bars, check_error, check_fresh, crossed_square, forces, fraction,
    joints, point, q, triangle, wheel,
)
from reference import check_grounds_kept, columns, null_space, places_of, rank, slow_rate, slow_rates, some_frames
from standframes.changes import ZERO
from standframes.errors import UnknownName, WrongKind
from standframes.forces import carry, is_carry
from standframes.frames import Frame
from standframes.loads import Load, pair_load
from standframes.motions import (
    freedom, is_motion, is_rigid, lock, loose_joints, motions, rate, rigid, stands, stiff,
)


def flat(velocities):
    return [fraction(item) for row in velocities for item in row[1:]]


def rigid_columns(frame):
    """What s, t and r give to all velocities."""
    places = places_of(frame)
    return [
        [item for a, b in places.values() for item in part(a, b)]
        for part in (lambda a, b: (1, 0), lambda a, b: (0, 1), lambda a, b: (-b, a))]


def four_bars():
    return Frame(joints(a=(0, 0), b=(0, 2), c=(3, 2), d=(3, 0)), bars("ab", "bc", "cd"),
                 grounds=[("a", "fixed"), ("d", "fixed")])


class TestMotions(unittest.TestCase):
    def test_small(self):
        self.assertEqual(motions(four_bars()), [forces(a=(0, 0), b=(1, 0), c=(1, 0), d=(0, 0))])
        self.assertEqual(motions(Frame([], [])), [])
        alone = Frame(joints(a=(7, 8)), [])
        self.assertEqual(motions(alone), [forces(a=(1, 0)), forces(a=(0, 1))])
        slide = Frame(joints(a=(7, 8)), [], grounds=[("a", point(3, 6))])
        self.assertEqual(motions(slide), [[("a", q(1, 2), q(1))]])
        level = Frame(joints(a=(7, 8)), [], grounds=[("a", point(-3, 0))])
        self.assertEqual(motions(level), [[("a", q(1), q(0))]])
        self.assertEqual(motions(Frame(joints(a=(7, 8)), [], grounds=[("a", "fixed")])), [])
        pair = Frame(joints(a=(0, 0), b=(2, 0)), bars("ab"))
        self.assertEqual(motions(pair), [
            forces(a=(0, 1), b=(0, 0)), forces(a=(1, 0), b=(1, 0)), forces(a=(0, 0), b=(0, 1))])

    def test_null_solutions(self):
        numbers = set()
        for frame, _ in some_frames(150, 51):
            found = motions(frame)
            names = [row[0] for row in frame.joints]
            due = null_space(columns(frame), 2 * len(names))
            self.assertEqual([flat(moves) for moves in found], due)
            numbers.add(len(due))
            self.assertEqual(freedom(frame), len(due))
            self.assertIs(freedom(frame).__class__, int)
            self.assertIs(stands(frame), not due)
            moving = [name for k, name in enumerate(names) if any(moves[2 * k] or moves[2 * k + 1] for moves in due)]
            self.assertEqual(loose_joints(frame), moving)
            for moves in found:
                self.assertEqual([row[0] for row in moves], names)
                check_grounds_kept(self, frame, moves)
                self.assertFalse(any(slow_rates(frame, moves).values()))
                self.assertIs(is_motion(frame, moves), True)
        self.assertTrue(numbers >= set(range(6)), numbers)

    def test_stands(self):
        self.assertIs(stands(Frame([], [])), True)
        self.assertEqual(freedom(Frame([], [])), 0)
        self.assertEqual(freedom(triangle()), 3)
        self.assertIs(stands(triangle()), False)
        self.assertIs(stands(triangle(grounds=[("a", "fixed"), ("b", point(1, 0))])), True)
        # The slide along which b can turn about a holds nothing.
        turning = triangle(grounds=[("a", "fixed"), ("b", point(0, 1))])
        self.assertEqual((freedom(turning), stands(turning), loose_joints(turning)), (1, False, ["b", "c"]))
        self.assertEqual(freedom(crossed_square()), 3)
        self.assertEqual(loose_joints(four_bars()), ["b", "c"])
        self.assertEqual(loose_joints(triangle()), ["a", "b", "c"])
        self.assertEqual(loose_joints(Frame([], [])), [])

    def test_roles_have_no_effect(self):
        frame = four_bars()
        for role in ("tie", "prop"):
            other = Frame(frame.joints, [(*row[:3], role) for row in frame.bars], grounds=frame.grounds)
            self.assertEqual(motions(other), motions(frame))
            self.assertIs(stiff(other), False)

    def test_one_line(self):
        # Enough bars, but all on one line: the middle can move across it.
        frame = Frame(joints(a=(0, 0), b=(1, 1), c=(3, 3)), bars("ab", "bc", "ac"), grounds=[("a", "fixed")])
        self.assertEqual(freedom(frame), 2)
        self.assertIs(stiff(frame), False)

    def test_is_motion(self):
        frame = four_bars()
        good = forces(a=(0, 0), b=(5, 0), c=(5, 0), d=(0, 0))
        self.assertIs(is_motion(frame, good), True)
        self.assertIs(is_motion(frame, forces(a=(0, 0), b=(0, 0), c=(0, 0), d=(0, 0))), True)
        self.assertIs(is_motion(Frame([], []), []), True)
        self.assertIs(is_motion(Frame([], []), forces(a=(0, 0))), False)
        for value in [
            None, True, 1, "abcd", (), {}, frame, Load(good), tuple(good), good[:-1], good[::-1], good + good[:1], [],
            [list(row) for row in good], [row[1:] for row in good], ("motion", good), [good],
            forces(a=(0, 0), b=(5, 0), c=(4, 0), d=(0, 0)), forces(a=(0, 0), b=(5, 1), c=(5, 0), d=(0, 0)),
            forces(a=(5, 0), b=(5, 0), c=(5, 0), d=(5, 0)), forces(a=(0, 1), b=(5, 0), c=(5, 0), d=(0, 0)),
            [*good[:-1], ("x", q(0), q(0))], [*good[:-1], ("d", q(0))], [*good[:-1], ("d", q(0), q(0), q(0))],
        ]:
            self.assertIs(is_motion(frame, value), False)
        for value in NO_RATIOS:
            self.assertIs(is_motion(frame, [("a", value, q(0)), *good[1:]]), False)
            self.assertIs(is_motion(frame, [*good[:-1], ("d", q(0), value)]), False)
        slide = Frame(joints(a=(0, 0)), [], grounds=[("a", point(2, 1))])
        self.assertIs(is_motion(slide, forces(a=(-4, -2))), True)
        self.assertIs(is_motion(slide, forces(a=(4, 1))), False)
        self.assertIs(is_motion(slide, forces(a=(-1, 2))), False)

    def test_long_numbers(self):
        long = 10 ** 900 + 1
        frame = Frame([("a", q(0), q(0)), ("b", q(long), q(1, long))], bars("ab"), grounds=[("a", "fixed")])
        self.assertEqual(motions(frame), [[("a", q(0), q(0)), ("b", q(-1, long * long), q(1))]])
        self.assertIs(is_motion(frame, motions(frame)[0]), True)

    def test_errors(self):
        for value in NO_FRAMES:
            for call in (motions, freedom, stands, loose_joints, stiff, rigid):
                check_error(self, WrongKind, {"argument": "frame"}, call, value)
            for call in (is_motion, is_rigid):
                check_error(self, WrongKind, {"argument": "frame"}, call, value, None)
            check_error(self, WrongKind, {"argument": "frame"}, rigid, value, shift=None, turn=None)
            check_error(self, WrongKind, {"argument": "frame"}, lock, value, None, None)
            check_error(self, WrongKind, {"argument": "frame"}, rate, value, None, None, None)


class TestRate(unittest.TestCase):
    def test_small(self):
        frame = Frame(joints(a=(0, 0), b=(3, 1), c=(3, 1)), [], grounds=[("a", "fixed")])
        velocities = forces(a=(1, 2), b=(5, -4), c=(1, 1))
        # (-3, -1) with (-4, 6): the velocities keep no ground.
        self.assertEqual(rate(frame, velocities, "a", "b"), q(6))
        self.assertEqual(rate(frame, velocities, "b", "a"), q(6))
        self.assertEqual(rate(frame, velocities, "b", "c"), q(0))
        self.assertEqual(rate(frame, velocities, "a", "c"), q(-1))
        for name in "abc":
            self.assertEqual(rate(frame, velocities, name, name), q(0))

    def test_many(self):
        for frame, _ in some_frames(30, 52):
            velocities = [(row[0], q(k * k, 3), q(-k, 2)) for k, row in enumerate(frame.joints)]
            for one, other in itertools.product([row[0] for row in frame.joints], repeat=2):
                self.assertEqual(rate(frame, velocities, one, other), q(slow_rate(frame, velocities, one, other)))

    def test_errors(self):
        frame = triangle()
        good = forces(a=(1, 1), b=(0, 0), c=(0, 0))
        for value in [None, good[::-1], good[:2], tuple(good), [], forces(a=(1, 1), b=(0, 0), d=(0, 0)), Load(good)]:
            check_error(self, WrongKind, {"argument": "velocities"}, rate, frame, value, None, None)
        for value in NO_RATIOS:
            wrong = [*good[:2], ("c", value, q(0))]
            check_error(self, WrongKind, {"argument": "velocities"}, rate, frame, wrong, "a", "b")
        for value in NO_NAMES:
            check_error(self, WrongKind, {"argument": "one"}, rate, frame, good, value, None)
            check_error(self, WrongKind, {"argument": "other"}, rate, frame, good, "x", value)
            check_error(self, WrongKind, {"argument": "one"}, lock, frame, value, None)
            check_error(self, WrongKind, {"argument": "other"}, lock, frame, "x", value)
        for call in (lock, lambda frame, one, other: rate(frame, good, one, other)):
            check_error(self, UnknownName, {"unknown": "x"}, call, frame, "x", "y")
            check_error(self, UnknownName, {"unknown": "ab"}, call, frame, "a", "ab")
            check_error(self, UnknownName, {"unknown": "y"}, call, frame, "a", "y")


class TestRigid(unittest.TestCase):
    def test_rigid(self):
        frame = triangle(grounds=[("a", "fixed")])
        self.assertEqual(rigid(frame), forces(a=(0, 0), b=(0, 0), c=(0, 0)))
        self.assertEqual(rigid(frame, shift=point(2, -1)), forces(a=(2, -1), b=(2, -1), c=(2, -1)))
        self.assertEqual(rigid(frame, turn=q(2)), forces(a=(0, 0), b=(0, 8), c=(-6, 0)))
        self.assertEqual(
            rigid(frame, turn=q(1, 3), shift=point(Fraction(1, 2), 5)),
            [("a", q(1, 2), q(5)), ("b", q(1, 2), q(19, 3)), ("c", q(-1, 2), q(5))])
        self.assertEqual(rigid(frame, shift=ZERO, turn=(0, 1)), rigid(frame))
        self.assertEqual(rigid(Frame([], []), shift=point(1, 1), turn=q(1)), [])

    def test_rigid_errors(self):
        frame = triangle()
        for value in NO_POINTS:
            check_error(self, WrongKind, {"argument": "shift"}, rigid, frame, turn=None, shift=value)
        for value in NO_RATIOS:
            check_error(self, WrongKind, {"argument": "turn"}, rigid, frame, turn=value)

    def test_is_rigid(self):
        for frame in (triangle(), wheel(), crossed_square(grounds=[("a", "fixed"), ("b", "fixed")])):
            moves = rigid(frame, shift=point(3, Fraction(-2, 7)), turn=q(5, 3))
            self.assertIs(is_rigid(frame, moves), True)
            for k in range(len(moves)):
                name, x, y = moves[k]
                for row in ((name, q(fraction(x) + 1), y), (name, x, q(fraction(y) - 1))):
                    self.assertIs(is_rigid(frame, [*moves[:k], row, *moves[k + 1:]]), False)
        for value in [None, 1, tuple(moves), moves[::-1], moves[:-1], [], moves + moves[:1], frame, ("rigid", moves)]:
            self.assertIs(is_rigid(frame, value), False)
        for value in NO_RATIOS:
            self.assertIs(is_rigid(frame, [*moves[:-1], ("d", q(0), value)]), False)

    def test_is_rigid_at_the_edges(self):
        self.assertIs(is_rigid(Frame([], []), []), True)
        alone = Frame(joints(a=(3, 4)), [], grounds=[("a", "fixed")])
        self.assertIs(is_rigid(alone, forces(a=(17, -3))), True)
        twice = Frame(joints(a=(1, 2), b=(1, 2)), [])
        self.assertIs(is_rigid(twice, forces(a=(1, 2), b=(1, 2))), True)
        self.assertIs(is_rigid(twice, forces(a=(1, 2), b=(1, 3))), False)
        # On one line, all rates are zero, but the middle leaves it.
        line = Frame(joints(a=(0, 0), b=(1, 0), c=(2, 0)), [])
        self.assertIs(is_rigid(line, forces(a=(0, 0), b=(0, 1), c=(0, 0))), False)
        self.assertIs(is_rigid(line, forces(a=(0, 0), b=(0, 1), c=(0, 2))), True)
        # A turn that is too wide is no turn: the lengths change.
        self.assertIs(is_rigid(triangle(), forces(a=(0, 0), b=(4, 0), c=(0, 3))), False)

    def test_stiff(self):
        for frame, due in [
            (Frame([], []), True), (Frame(joints(a=(1, 1)), []), True), (triangle(), True), (wheel(), True),
            (Frame(joints(a=(1, 1), b=(1, 1)), []), False), (Frame(joints(a=(1, 1), b=(2, 1)), []), False),
            (Frame(joints(a=(1, 1), b=(2, 1)), bars("ab")), True), (four_bars(), False), (crossed_square(), True),
            (Frame(joints(a=(1, 1)), [], grounds=[("a", "fixed")]), True),
            (Frame(joints(a=(0, 0), b=(2, 0), c=(0, 0)), bars("ab", "bc")), False),
            # Grounds hold it, but without them it is not stiff.
            (Frame(joints(a=(0, 0), b=(1, 0)), [], grounds=[("a", "fixed"), ("b", "fixed")]), False),
        ]:
            self.assertIs(stiff(frame), due)

    def test_stiff_by_rank(self):
        words = {True: 0, False: 0}
        for frame, _ in some_frames(150, 53):
            bare = Frame(frame.joints, frame.bars)
            due = freedom(bare) == rank(rigid_columns(frame))
            self.assertIs(stiff(frame), due)
            words[due] += 1
            for moves in motions(bare):
                turned = rank([*rigid_columns(frame), flat(moves)]) == rank(rigid_columns(frame))
                self.assertIs(is_rigid(frame, moves), turned)
        self.assertTrue(min(words.values()) > 20, words)


class TestLock(unittest.TestCase):
    def test_small(self):
        frame = four_bars()
        self.assertEqual(lock(frame, "b", "c"), carry(frame, pair_load(frame, "b", "c")))
        self.assertEqual(lock(frame, "b", "c")[:2], ("forces", [("ab", q(0)), ("bc", q(1)), ("cd", q(0))]))
        word, velocities = lock(frame, "a", "c")
        self.assertEqual(word, "motion")
        self.assertEqual(slow_rate(frame, velocities, "a", "c"), 1)
        self.assertEqual(lock(frame, "a", "d")[0], "forces")
        self.assertEqual(lock(frame, "c", "c"), carry(frame, Load([])))
        self.assertEqual(lock(Frame(joints(a=(1, 1), b=(1, 1)), []), "a", "b"), ("forces", [], []))

    def test_many(self):
        words = {"forces": 0, "motion": 0}
        for frame, _ in some_frames(60, 54):
            found = motions(frame)
            for one, other in itertools.product([row[0] for row in frame.joints], repeat=2):
                answer = lock(frame, one, other)
                locked = not any(slow_rate(frame, moves, one, other) for moves in found)
                self.assertEqual(answer[0], "forces" if locked else "motion")
                words[answer[0]] += 1
                load = pair_load(frame, one, other)
                self.assertEqual(answer, carry(frame, load))
                self.assertIs(is_carry(frame, load, answer), True)
                if not locked:
                    self.assertEqual(slow_rate(frame, answer[1], one, other), 1)
        self.assertTrue(min(words.values()) > 50, words)


class TestCopies(unittest.TestCase):
    def test_fresh(self):
        check_fresh(self, lambda: motions(crossed_square()))
        check_fresh(self, lambda: loose_joints(crossed_square()))
        check_fresh(self, lambda: rigid(wheel(), turn=q(1)))
        check_fresh(self, lambda: lock(four_bars(), "a", "c"))
        check_fresh(self, lambda: lock(four_bars(), "a", "d"))

    def test_arguments_stay(self):
        frame = four_bars()
        moves = motions(frame)[0]
        before = copy.deepcopy(moves)
        self.assertEqual([is_motion(frame, moves), is_rigid(frame, moves)], [True, False])
        rate(frame, moves, "a", "b")
        self.assertEqual(moves, before)
        self.assertEqual(frame, four_bars())
