import copy
import random
import unittest
from fractions import Fraction

from helpers import (
    NO_FRAMES, NO_POINTS, NO_RATIOS, bars, check_error, check_fresh, crossed_square, fraction, joints, point, q, qs,
    triangle, wheel,
)
from reference import flat_frames, places_of
from standframes.errors import NotCover, NotFlat, NotLift, NotOwnStress, OutOfBounds, WrongKind
from standframes.faces import double_area, faces, is_flat, outer_face
from standframes.forces import own_stresses
from standframes.frames import Frame
from standframes.lifts import bowl, convex_outside, heights, is_lift, lift, lift_pulls, plane_height
from standframes.loads import Load
from standframes.pictures import picture
from test_pictures import NO_WALKS, covered_frames, mixed_stress, numbers, runs, sides, spans

NO_PLANES = [None, 1, "abc", [*qs(0, 0, 0)], (q(0), q(0)), (*qs(0, 0, 0, 0),), (), (q(0), q(0), None), {}] + [
    (q(0), value, q(0)) for value in NO_RATIOS]


def plane(*items):
    return tuple(q(item) for item in items)


def slow_height(one, spot):
    a, b, c = (fraction(item) for item in one)
    return a * spot[0] + b * spot[1] + c


def slow_heights(frame, walks, planes):
    """The height of each joint, or None if the planes are no lift."""
    found = {}
    for walk, one in zip(walks, planes):
        for name in walk:
            height = slow_height(one, places_of(frame)[name])
            if found.setdefault(name, height) != height:
                return None
    return found


def added(planes, more):
    return [plane(*[fraction(x) + fraction(y) for x, y in zip(one, more)]) for one in planes]


def nested():
    """A triangle within a triangle, with bars between them: seven bars in two rings and between."""
    return Frame(joints(a=(-4, -4), b=(8, -4), c=(-4, 8), d=(-1, -1), e=(2, -1), f=(-1, 2)),
                 bars("ab", "bc", "ca", "de", "ef", "fd", "ad", "be", "cf"))


class TestLift(unittest.TestCase):
    def test_wheel(self):
        frame = wheel()
        walks = faces(frame)
        stress = own_stresses(frame)[0]
        found = lift(frame, walks, stress)
        # The points of the picture are (0, 0), (2, 0), (4, -2) and (2, 2).
        self.assertEqual(found, [plane(0, 0, 0), plane(0, 2, 0), plane(2, 4, -12), plane(-2, 2, 0)])
        self.assertEqual(heights(frame, walks, found), [("a", q(0)), ("b", q(0)), ("c", q(12)), ("d", q(0))])
        turned = lift(frame, [walks[1], *walks[::-1][:2], walks[0]], stress)
        self.assertEqual(turned[0], plane(0, 0, 0))
        level = heights(frame, [walks[1], *walks[::-1][:2], walks[0]], turned)
        self.assertEqual(level, [("a", q(0)), ("b", q(0)), ("c", q(0)), ("d", q(-4))])

    def test_no_stress(self):
        frame = Frame(joints(a=(0, 0), b=(1, 0)), bars("ab"))
        self.assertEqual(lift(frame, [["b", "a"]], [("ab", q(0))]), [plane(0, 0, 0)])
        self.assertEqual(lift_pulls(frame, [["b", "a"]], [plane(5, 6, 7)]), [("ab", q(0))])
        self.assertEqual(heights(frame, [["b", "a"]], [plane(5, 6, 7)]), [("a", q(7)), ("b", q(12))])

    def test_many(self):
        seen = moved = 0
        for frame, walks, stress in covered_frames(150, 111):
            found = lift(frame, walks, stress)
            self.assertEqual(len(found), len(walks))
            self.assertEqual(found[0], plane(0, 0, 0))
            for one, spot in zip(found, picture(frame, walks, stress)):
                x, y = numbers(spot)
                self.assertEqual((fraction(one[0]), fraction(one[1])), (-y, x))
            for (left, right), span, (_, pull) in zip(sides(frame, walks), spans(frame), stress):
                lean = [fraction(found[left][k]) - fraction(found[right][k]) for k in (0, 1)]
                self.assertEqual(lean, [-fraction(pull) * span[1], fraction(pull) * span[0]])
            due = slow_heights(frame, walks, found)
            self.assertIsNotNone(due)
            self.assertEqual(
                heights(frame, walks, found), [(row[0], q(due[row[0]])) for row in frame.joints])
            self.assertEqual(lift_pulls(frame, walks, found), stress)
            other = added(found, plane(3, -1, 7))
            self.assertIs(is_lift(frame, walks, found), True)
            self.assertIs(is_lift(frame, walks, other), True)
            self.assertEqual(lift_pulls(frame, walks, other), stress)
            due = slow_heights(frame, walks, other)
            self.assertEqual(
                heights(frame, walks, other), [(row[0], q(due[row[0]])) for row in frame.joints])
            if len(walks) > 1:
                wrong = [*found[:-1], plane(*[fraction(item) + 1 for item in found[-1]])]
                self.assertIs(is_lift(frame, walks, wrong), slow_heights(frame, walks, wrong) is not None)
            seen += any(pull != q(0) for _, pull in stress)
            moved += frame.grounds != []
        self.assertTrue(min(seen, moved) > 40, (seen, moved))

    def test_crossed_square(self):
        frame = crossed_square()
        walks = [["a", "b", "c"], ["c", "b", "d"], ["d", "b", "a"], ["a", "c", "d"]]
        stress = own_stresses(frame)[0]
        found = lift(frame, walks, stress)
        self.assertEqual(lift_pulls(frame, walks, found), stress)
        self.assertIsNotNone(slow_heights(frame, walks, found))

    def test_is_lift(self):
        frame = wheel()
        walks = faces(frame)
        good = lift(frame, walks, own_stresses(frame)[0])
        self.assertIs(is_lift(frame, walks, good), True)
        self.assertIs(is_lift(frame, walks, [plane(1, 2, 3)] * 4), True)
        for value in [
            None, True, 4, tuple(good), good[:3], good + good[:1], [], good[::-1], [good], {}, frame, Load([]),
            [list(one) for one in good], [*good[:3], plane(-2, 2, 1)], [*good[:3], plane(-2, 1, 0)],
            [plane(0, 0, 1), *good[1:]], [*good[:3], (-2, 2, 0)],
        ]:
            self.assertIs(is_lift(frame, walks, value), False)
        for value in NO_PLANES:
            self.assertIs(is_lift(frame, walks, [*good[:3], value]), False)

    def test_every_joint_counts(self):
        # Each plane is moved in turn so that it fits at two corners of its walk, but not at the third.
        frame = wheel()
        walks = faces(frame)
        good = lift(frame, walks, own_stresses(frame)[0])
        places = places_of(frame)
        for at, walk in enumerate(walks):
            for k, name in enumerate(walk):
                (x1, y1), (x2, y2) = (places[other] for other in walk if other != name)
                # Zero along the line through the other two.
                zero = (y1 - y2, x2 - x1, x1 * y2 - x2 * y1)
                wrong = list(good)
                wrong[at] = plane(*[fraction(item) + more for item, more in zip(good[at], zero)])
                self.assertIs(is_lift(frame, walks, wrong), False)
                check_error(self, NotLift, {"subject": None}, lift_pulls, frame, walks, wrong)
                check_error(self, NotLift, {"subject": None}, heights, frame, walks, wrong)
                check_error(self, NotLift, {"subject": None}, bowl, frame, wrong)

    def test_errors(self):
        frame = wheel()
        walks = faces(frame)
        stress = own_stresses(frame)[0]
        good = lift(frame, walks, stress)
        for value in NO_FRAMES:
            for call in (lift, is_lift, lift_pulls, heights):
                check_error(self, WrongKind, {"argument": "frame"}, call, value, None, None)
            check_error(self, WrongKind, {"argument": "frame"}, bowl, value, None)
            check_error(self, WrongKind, {"argument": "frame"}, convex_outside, value)
        for value in NO_WALKS:
            for call in (lift, is_lift, lift_pulls, heights):
                check_error(self, WrongKind, {"argument": "walks"}, call, frame, value, None)
        for value in [None, stress[::-1], stress[:-1], tuple(stress), [], good, [*stress[:-1], ("cd", 1)]]:
            check_error(self, WrongKind, {"argument": "pulls"}, lift, frame, [], value)
        for value in [None, tuple(good), stress, "planes", {}, *[[*good, one] for one in NO_PLANES]]:
            for call in (lift_pulls, heights):
                check_error(self, WrongKind, {"argument": "planes"}, call, frame, [], value)
            check_error(self, WrongKind, {"argument": "planes"}, bowl, crossed_square(), value)
        for planes in ([], good[:3], good + good[:1]):
            for call in (lift_pulls, heights):
                check_error(self, OutOfBounds, {"argument": "planes"}, call, frame, walks, planes)
        wrong = [(name, q(1)) for name, _ in stress]
        for cover in (walks[:3], [], [[]], walks + [["a", "b"]], [["x", "y"]] * 4):
            check_error(self, NotCover, {"subject": None}, lift, frame, cover, wrong)
            check_error(self, NotCover, {"subject": None}, is_lift, frame, cover, None)
            for call in (lift_pulls, heights):
                planes = [plane(k, 0, k) for k, _ in enumerate(cover)]
                check_error(self, NotCover, {"subject": None}, call, frame, cover, planes)
        check_error(self, NotOwnStress, {"subject": None}, lift, frame, walks, wrong)

    def test_plane_height(self):
        self.assertEqual(plane_height(plane(2, -3, 5), point(7, 1)), q(16))
        self.assertEqual(plane_height((q(1, 2), q(1, 3), q(-1, 6)), (q(1, 5), q(1))), q(4, 15))
        self.assertEqual(plane_height(plane(0, 0, 0), point(7, 1)), q(0))
        for value in NO_PLANES:
            check_error(self, WrongKind, {"argument": "plane"}, plane_height, value, None)
        for value in NO_POINTS:
            check_error(self, WrongKind, {"argument": "point"}, plane_height, plane(0, 0, 0), value)


def slow_bowl(frame, planes):
    walks = faces(frame)
    levels = slow_heights(frame, walks, planes)
    outer, = [at for at, walk in enumerate(walks) if double_area(frame, walk)[0] <= 0]
    return all(
        levels[name] >= slow_height(one, spot)
        for at, one in enumerate(planes) if at != outer for name, spot in places_of(frame).items())


def slow_convex(frame):
    walk = faces(frame)[outer_face(frame)]
    if len(walk) < 3 or len(set(walk)) < len(walk):
        return False
    places = places_of(frame)
    ways = [[places[end][k] - places[start][k] for k in (0, 1)] for start, end in runs(walk)]
    return all(x1 * y2 - y1 * x2 <= 0 for (x1, y1), (x2, y2) in zip(ways, ways[1:] + ways[:1]))


class TestBowl(unittest.TestCase):
    def test_wheel(self):
        frame = wheel()
        walks = faces(frame)
        stress = own_stresses(frame)[0]
        for factor, due in (
            (1, True), (-1, False), (3, True), (0, True), (-Fraction(1, 4), False), (-Fraction(1, 12), False),
            (-Fraction(1, 36), False),
        ):
            pulls = [(name, q(factor * fraction(pull))) for name, pull in stress]
            planes = lift(frame, walks, pulls)
            self.assertIs(bowl(frame, planes), due)
            self.assertIs(bowl(frame, added(planes, plane(1, -5, 9))), due)

    def test_outer_face_alone(self):
        frame = Frame(joints(a=(0, 0), b=(4, 0), c=(4, 9)), bars("ab", "bc"))
        for one in (plane(0, 0, 0), plane(1, 2, 3)):
            self.assertIs(bowl(frame, [one]), True)

    def test_every_joint_counts(self):
        # Two triangles with a common bar, and a folded plane that only joints of the other one are above or below.
        frame = Frame(joints(a=(0, 0), b=(4, 0), c=(0, 4), d=(9, 9)), bars("ab", "bc", "ca", "bd", "cd"))
        walks = faces(frame)
        inner = [sorted(walk) for walk in walks if double_area(frame, walk)[0] > 0]
        self.assertEqual(inner, [list("abc"), list("bcd")])
        self.assertIs(bowl(frame, [plane(1, 1, 0)] * 3), True)

    def test_many(self):
        source = random.Random(112)
        words = {True: 0, False: 0}
        convex = {True: 0, False: 0}
        for frame in flat_frames(200, 113):
            walks = faces(frame)
            due = slow_convex(frame)
            self.assertIs(convex_outside(frame), due)
            convex[due] += 1
            for _ in range(3):
                stress = mixed_stress(frame, source)
                planes = lift(frame, walks, stress)
                due = slow_bowl(frame, planes)
                self.assertIs(bowl(frame, planes), due)
                if any(pull[0] for _, pull in stress):
                    words[due] += 1
                if convex_outside(frame):
                    outer = outer_face(frame)
                    inner = [pull for (_, pull), pair in zip(stress, sides(frame, walks)) if outer not in pair]
                    self.assertIs(due, all(pull[0] >= 0 for pull in inner))
        self.assertTrue(min(words.values()) > 5 and min(convex.values()) > 30, (words, convex))

    def test_nested(self):
        frame = nested()
        walks = faces(frame)
        stress = own_stresses(frame)[0]
        spokes = [pull[0] > 0 for name, pull in stress if name in ("ad", "be", "cf")]
        self.assertTrue(len(set(spokes)) == 1)
        planes = lift(frame, walks, stress)
        self.assertIs(bowl(frame, planes), slow_bowl(frame, planes))
        other = lift(frame, walks, [(name, q(-fraction(pull))) for name, pull in stress])
        self.assertEqual({bowl(frame, planes), bowl(frame, other)}, {True, False})
        self.assertIs(convex_outside(frame), True)

    def test_convex_outside(self):
        for places, lines, due in [
            ({"a": (0, 0), "b": (4, 0)}, ["ab"], False), ({"a": (0, 0), "b": (4, 0), "c": (5, 5)}, ["ab", "bc"], False),
            ({"a": (0, 0), "b": (4, 0), "c": (0, 4)}, ["ab", "bc", "ca"], True),
            ({"a": (0, 0), "b": (4, 0), "c": (0, 4)}, ["ba", "cb", "ac"], True),
            ({"a": (0, 0), "b": (4, 0), "c": (4, 4), "d": (0, 4)}, ["ab", "bc", "cd", "da"], True),
            ({"a": (0, 0), "b": (4, 0), "c": (1, 1), "d": (0, 4)}, ["ab", "bc", "cd", "da"], False),
            # A joint in the middle of a side turns neither way.
            ({"a": (0, 0), "b": (2, 0), "c": (4, 0), "d": (0, 4)}, ["ab", "bc", "cd", "da"], True),
            # A bar that hangs outside, and one that hangs inside.
            ({"a": (0, 0), "b": (4, 0), "c": (0, 4), "d": (5, 5)}, ["ab", "bc", "ca", "cd"], False),
            ({"a": (0, 0), "b": (4, 0), "c": (0, 4), "d": (1, 1)}, ["ab", "bc", "ca", "cd"], True),
            # Two triangles with a common joint.
            ({"a": (0, 0), "b": (4, 0), "c": (4, 4), "d": (-4, 0), "e": (-4, -4)},
             ["ab", "bc", "ca", "ad", "de", "ea"], False),
        ]:
            frame = Frame(joints(**places), bars(*lines))
            self.assertIs(is_flat(frame), True)
            self.assertIs(convex_outside(frame), due, lines)
            self.assertIs(slow_convex(frame), due)

    def test_errors(self):
        apart = Frame(joints(a=(0, 0), b=(1, 0), c=(2, 2)), bars("ab"))
        for frame in (crossed_square(), Frame([], []), Frame(joints(a=(0, 0)), []), apart):
            check_error(self, NotFlat, {"subject": None}, convex_outside, frame)
            check_error(self, NotFlat, {"subject": None}, bowl, frame, [plane(1, 2, 3)] * 4)
            check_error(self, NotFlat, {"subject": None}, bowl, frame, [])
        for planes in ([], [plane(0, 0, 0)] * 3, [plane(0, 0, 0)] * 5, [plane(k, 0, 0) for k in range(4)]):
            check_error(self, NotLift, {"subject": None}, bowl, wheel(), planes)
        check_error(self, NotLift, {"subject": None}, bowl, triangle(), [plane(0, 0, 0)])


class TestCopies(unittest.TestCase):
    def test_fresh(self):
        frame = wheel()
        walks = faces(frame)
        stress = own_stresses(frame)[0]
        planes = lift(frame, walks, stress)
        check_fresh(self, lambda: lift(frame, walks, stress))
        check_fresh(self, lambda: lift_pulls(frame, walks, planes))
        check_fresh(self, lambda: heights(frame, walks, planes))

    def test_arguments_stay(self):
        frame = wheel()
        walks = faces(frame)
        stress = own_stresses(frame)[0]
        planes = lift(frame, walks, stress)
        before = copy.deepcopy([walks, stress, planes])
        lift_pulls(frame, walks, planes)
        heights(frame, walks, planes)
        is_lift(frame, walks, planes)
        bowl(frame, planes)
        self.assertEqual(before, [walks, stress, planes])
        self.assertEqual(frame, wheel())
