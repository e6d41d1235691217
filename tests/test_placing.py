import random
import unittest
from fractions import Fraction
from math import isqrt

from helpers import HUGE, NO_POINTS, NO_RATIOS, check_error, fraction, point, q, qs
from standframes.errors import OutOfBounds, WrongKind
from standframes.placing import chain_reach, distance_sign, meet, meet_line, side_of, turn_point

NO_SIDES = [None, 0, 2, -2, True, False, "1", (1, 1), [1], 1 + HUGE, "left"]
NO_SPOTS = [
    None, 1, "at", (), ("at",), point(1, 2), ("at", 1), ("at", point(1, 2), point(1, 2)), ["at", point(1, 2)],
    ("root", point(1, 2), point(1, 2)), ("root", point(1, 2), point(1, 2), q(-1)), ("root", point(1, 2), q(1), q(1)),
    ("root", q(1), point(1, 2), q(1)), ("root", point(1, 2), point(1, 2), 2), ("far", q(1)), ("near", q(1)),
    ("same",), ("At", point(1, 2)), ("root", point(1, 2), point(1, 2), q(1), q(1)), ("root", point(1, 2), q(1)), {},
    ("root", [q(1), q(2)], point(1, 2), q(1)), ("root", point(1, 2), point(1, 2), (2, 2)), (None, point(1, 2)),
    ("at", point(1, 2), point(1, 2), q(1)), ("root", point(1, 2)), ([], point(1, 2)),
    ("Root", point(1, 2), point(1, 2), q(1)), (None, point(1, 2), point(1, 2), q(1)),
     (["at"], point(1, 2)),
    ("root", point(1, 2), point(1, 2), None), ("root", point(1, 2), point(1, 2), True),
]
NO_POSITIVES = [*NO_RATIOS, q(0), q(-1), q(-1, 7)]
FINE = 10 ** 60


def root_within(one):
    """Fractions below and above the root of a ratio, very near to each other."""
    low = Fraction(isqrt(one.numerator * FINE * FINE // one.denominator), FINE)
    return low, low + Fraction(1, FINE)


def plain(spot):
    """The point of a spot, in fractions: exact for "at", very near for "root"."""
    if spot[0] == "at":
        return tuple(fraction(part) for part in spot[1])
    low = root_within(fraction(spot[3]))[0]
    return tuple(fraction(x) + low * fraction(y) for x, y in zip(spot[1], spot[2]))


def square_of(spot, centre):
    """The squared distance of a spot from a point, as the parts of a + b * root."""
    if spot[0] == "at":
        return sum((fraction(x) - fraction(y)) ** 2 for x, y in zip(spot[1], centre)), 0
    _, base, lean, under = spot
    away = [fraction(x) - fraction(y) for x, y in zip(base, centre)]
    way = [fraction(item) for item in lean]
    return (
        sum(item * item for item in away) + sum(item * item for item in way) * fraction(under),
        2 * sum(x * y for x, y in zip(away, way)))


def some_point(source):
    return point(Fraction(source.randint(-6, 6), source.randint(1, 3)), Fraction(source.randint(-6, 6), 2))


class TestMeet(unittest.TestCase):
    def test_small(self):
        o, e = point(0, 0), point(6, 0)
        for args, side, due in [
            ((o, e, q(25), q(25)), 1, ("at", point(3, 4))), ((o, e, q(25), q(25)), -1, ("at", point(3, -4))),
            ((e, o, q(25), q(25)), 1, ("at", point(3, -4))), ((o, e, q(4), q(9)), 1, ("far", q(36))),
            ((o, e, q(100), q(1)), 1, ("near", q(36))), ((o, e, q(1), q(100)), -1, ("near", q(36))),
            ((o, o, q(25), q(25)), 1, ("same",)), ((e, e, q(1), q(2)), -1, ("same",)),
            # Circles that touch, from outside and from inside.
            ((o, e, q(4), q(16)), 1, ("at", point(2, 0))), ((o, e, q(4), q(16)), -1, ("at", point(2, 0))),
            ((o, e, q(64), q(4)), 1, ("at", point(8, 0))), ((o, e, q(9), q(81)), -1, ("at", point(-3, 0))),
            # And nearly.
            ((o, e, q(4), (16 * 10 ** 50 - 1, 10 ** 50)), 1, ("far", q(36))),
            ((o, e, (64 * 10 ** 50 + 1, 10 ** 50), q(4)), 1, ("near", q(36))),
            ((o, e, q(9), q(21)), 1, ("root", point(2, 0), point(0, 6), q(5, 36))),
            ((o, e, q(9), q(21)), -1, ("root", point(2, 0), point(0, -6), q(5, 36))),
            ((point(1, 1), point(2, 3), q(5), q(5)), 1,
             ("root", point(Fraction(3, 2), 2), point(-2, 1), q(3, 4))),
        ]:
            self.assertEqual(meet(*args, side=side), due)
            if side == 1:
                self.assertEqual(meet(*args), due)

    def test_nearly_touching(self):
        o, e = point(0, 0), point(6, 0)
        for first, second in [(q(4), (16 * 10 ** 50 + 1, 10 ** 50)), ((64 * 10 ** 50 - 1, 10 ** 50), q(4))]:
            word, base, lean, under = meet(o, e, first, second)
            self.assertEqual((word, lean), ("root", point(0, 6)))
            self.assertTrue(0 < fraction(under) < Fraction(1, 10 ** 48))

    def test_far_or_near(self):
        # Far only if the squared distance is greater than the sum of the squared lengths.
        o = point(0, 0)
        for gap, first, second, word in [(3, 1, 1, "far"), (3, 4, 1, None), (1, 9, 1, "near"), (2, 7, 2, "near"),
                                         (5, 1, 1, "far"), (2, 1, 1, None), (2, 1, 20, "near"), (20, 1, 20, None)]:
            result = meet(o, point(gap, 0), q(first * first), q(second * second))
            self.assertEqual(result[0] if result[0] in ("far", "near") else None, word)
            if word:
                self.assertEqual(result[1], q(gap * gap))
        # The squared distance is the sum of the squares: they meet in a right angle.
        self.assertEqual(meet(o, point(5, 0), q(9), q(16)), ("at", point(Fraction(9, 5), Fraction(12, 5))))

    def test_many(self):
        source = random.Random(151)
        words = {}
        for _ in range(2000):
            one, other = some_point(source), some_point(source)
            first, second = (q(source.choice([1, 4, 9, 25, 2, 7]), source.choice([1, 1, 4])) for _ in range(2))
            side = source.choice([1, -1])
            result = meet(one, other, first, second, side=side)
            words[result[0]] = words.get(result[0], 0) + 1
            gap = sum((fraction(x) - fraction(y)) ** 2 for x, y in zip(one, other))
            if result[0] in ("far", "near", "same"):
                self.check_apart(result, gap, fraction(first), fraction(second))
                continue
            self.assertEqual(square_of(result, one), (fraction(first), 0))
            self.assertEqual(square_of(result, other), (fraction(second), 0))
            turn = side_of(result, one, other)
            self.assertEqual(turn, 0 if result[0] == "at" and turn == 0 else side)
            self.assertEqual((distance_sign(result, one, first), distance_sign(result, other, second)), (0, 0))
            self.assertEqual(turn == 0, self.touch(gap, fraction(first), fraction(second)))
        self.assertTrue(min(words.values()) > 10 and len(words) == 5, words)

    def touch(self, gap, first, second):
        return 4 * gap * first == (gap + first - second) ** 2

    def check_apart(self, result, gap, first, second):
        if gap == 0:
            self.assertEqual(result, ("same",))
        else:
            self.assertEqual(result[1], q(gap))
            low, high = root_within(first * second)
            far = gap > first + second + 2 * low
            self.assertEqual(result[0], "far" if far else "near")
            if not far:
                self.assertTrue(gap < first + second - 2 * low)

    def test_errors(self):
        o, one = point(0, 0), q(1)
        for value in NO_POINTS:
            check_error(self, WrongKind, {"argument": "one"}, meet, value, None, None, None, side=7)
            check_error(self, WrongKind, {"argument": "other"}, meet, o, value, None, None, side=7)
        for value in NO_POSITIVES:
            check_error(self, WrongKind, {"argument": "first"}, meet, o, o, value, None, side=7)
            check_error(self, WrongKind, {"argument": "second"}, meet, o, o, one, value, side=7)
        for value in NO_SIDES:
            check_error(self, WrongKind, {"argument": "side"}, meet, o, o, one, one, side=value)


class TestMeetLine(unittest.TestCase):
    def test_small(self):
        o, along = point(0, 0), point(2, 0)
        for args, side, due in [
            ((o, along, point(1, 3), q(25)), 1, ("at", point(5, 0))),
            ((o, along, point(1, 3), q(25)), -1, ("at", point(-3, 0))),
            ((o, point(-2, 0), point(1, 3), q(25)), 1, ("at", point(-3, 0))),
            ((o, along, point(1, 3), q(9)), 1, ("at", point(1, 0))),
            ((o, along, point(1, 3), q(9)), -1, ("at", point(1, 0))),
            ((o, along, point(1, 3), (9 * 10 ** 40 - 1, 10 ** 40)), 1, ("far", q(9))),
            ((o, along, point(1, 3), q(8)), -1, ("far", q(9))),
            ((o, along, point(1, 3), q(10)), 1, ("at", point(2, 0))),
            ((o, along, point(1, 3), q(11)), 1, ("root", point(1, 0), along, q(1, 2))),
            ((o, along, point(1, 3), q(11)), -1, ("root", point(1, 0), point(-2, 0), q(1, 2))),
            ((o, along, point(4, 0), q(4)), 1, ("at", point(6, 0))),
            ((point(1, 1), point(1, 2), point(1, 1), q(5)), -1, ("at", point(0, -1))),
            ((point(0, 1), point(1, 1), point(1, 0), q(2)), 1, ("at", point(0, 1))),
        ]:
            self.assertEqual(meet_line(*args, side=side), due)
            if side == 1:
                self.assertEqual(meet_line(*args), due)

    def test_many(self):
        source = random.Random(152)
        words = {}
        for _ in range(1000):
            place, centre = some_point(source), some_point(source)
            way = source.choice([point(1, 0), point(3, 4), point(Fraction(-1, 2), 1), point(0, -5)])
            squared = q(source.choice([1, 4, 9, 25, 2, 7, 20]), source.choice([1, 1, 4]))
            side = source.choice([1, -1])
            result = meet_line(place, way, centre, squared, side=side)
            words[result[0]] = words.get(result[0], 0) + 1
            end = tuple(q(fraction(x) + fraction(y)) for x, y in zip(place, way))
            foot = self.foot(place, way, centre)
            if result[0] == "far":
                gap = sum((x - fraction(y)) ** 2 for x, y in zip(foot, centre))
                self.assertEqual(result, ("far", q(gap)))
                self.assertGreater(gap, fraction(squared))
                continue
            self.assertEqual(square_of(result, centre), (fraction(squared), 0))
            self.assertEqual(side_of(result, place, end), 0)
            ahead = sum((x - y) * fraction(z) for x, y, z in zip(plain(result), foot, way))
            self.assertTrue(ahead * side >= 0)
        self.assertTrue(min(words.values()) > 50 and len(words) == 3, words)

    def foot(self, place, way, centre):
        size = sum(fraction(item) ** 2 for item in way)
        part = sum((fraction(x) - fraction(y)) * fraction(z) for x, y, z in zip(centre, place, way)) / size
        return [fraction(x) + part * fraction(y) for x, y in zip(place, way)]

    def test_errors(self):
        o, along = point(0, 0), point(1, 0)
        for value in NO_POINTS:
            check_error(self, WrongKind, {"argument": "place"}, meet_line, value, None, None, None, side=7)
            check_error(self, WrongKind, {"argument": "centre"}, meet_line, o, along, value, None, side=7)
        for value in [*NO_POINTS, o]:
            check_error(self, WrongKind, {"argument": "direction"}, meet_line, o, value, None, None, side=7)
        for value in NO_POSITIVES:
            check_error(self, WrongKind, {"argument": "squared"}, meet_line, o, along, o, value, side=7)
        for value in NO_SIDES:
            check_error(self, WrongKind, {"argument": "side"}, meet_line, o, along, o, q(1), side=value)


class TestSpots(unittest.TestCase):
    def test_side_of(self):
        spot = ("root", point(0, 0), point(1, 0), q(2))
        for one, other, due in [
            (point(1, 0), point(1, 1), -1), (point(2, 0), point(2, 1), 1), (point(2, 1), point(2, 0), -1),
            (point(0, 0), point(1, 0), 0), (point(5, 5), point(5, 5), 0), (point(0, 1), point(1, 1), -1),
            (point(Fraction(141421356, 10 ** 8), 0), point(Fraction(141421356, 10 ** 8), 1), -1),
            (point(Fraction(141421357, 10 ** 8), 0), point(Fraction(141421357, 10 ** 8), 1), 1),
        ]:
            self.assertEqual(side_of(spot, one, other), due)
        # A root that is a ratio, and zero.
        self.assertEqual(side_of(("root", point(0, 0), point(1, 0), q(4)), point(2, 0), point(2, 1)), 0)
        self.assertEqual(side_of(("root", point(0, 0), point(1, 0), q(0)), point(0, 0), point(0, 1)), 0)
        self.assertEqual(side_of(("root", point(3, 0), point(0, 0), q(2)), point(0, 0), point(0, 1)), -1)
        for place, due in [(point(0, 1), 1), (point(0, -1), -1), (point(7, 0), 0)]:
            self.assertEqual(side_of(("at", place), point(0, 0), point(3, 0)), due)

    def test_distance_sign(self):
        spot = ("root", point(0, 0), point(1, 1), q(2))
        for centre, squared, due in [
            (point(0, 0), q(4), 0), (point(0, 0), q(3), 1), (point(0, 0), (4 * 10 ** 30 + 1, 10 ** 30), -1),
            (point(1, 0), q(2), 1), (point(1, 0), q(3), -1),
            (point(1, 0), q(5 - Fraction(28284271, 10 ** 7)), -1), (point(1, 0), q(5 - Fraction(28284272, 10 ** 7)), 1),
            (point(-1, 0), q(5 + Fraction(28284271, 10 ** 7)), 1),
            (point(-1, 0), q(5 + Fraction(28284272, 10 ** 7)), -1),
        ]:
            self.assertEqual(distance_sign(spot, centre, squared), due)
        self.assertEqual(distance_sign(("at", point(3, 4)), point(0, 0), q(25)), 0)
        self.assertEqual(distance_sign(("at", point(3, 4)), point(3, 4), (1, HUGE)), -1)
        self.assertEqual(distance_sign(("at", point(3, 4)), point(0, 4), q(8)), 1)
        self.assertEqual(distance_sign(("root", point(0, 0), point(1, 0), q(9)), point(1, 0), q(4)), 0)

    def test_many(self):
        source = random.Random(153)
        for _ in range(1000):
            spot = ("root", some_point(source), some_point(source), q(source.randint(0, 9), source.randint(1, 3)))
            one, other = some_point(source), some_point(source)
            x, y = plain(spot)
            (a, b), (c, d) = ([fraction(item) for item in place] for place in (one, other))
            cross = (c - a) * (y - b) - (d - b) * (x - a)
            due = 0 if abs(cross) < Fraction(1, 10 ** 40) else (1 if cross > 0 else -1)
            self.assertEqual(side_of(spot, one, other), due)
            squared = q(source.randint(1, 60), source.randint(1, 3))
            more = (x - a) ** 2 + (y - b) ** 2 - fraction(squared)
            due = 0 if abs(more) < Fraction(1, 10 ** 40) else (1 if more > 0 else -1)
            self.assertEqual(distance_sign(spot, one, squared), due)

    def test_errors(self):
        o, spot = point(0, 0), ("at", point(1, 1))
        for value in NO_SPOTS:
            check_error(self, WrongKind, {"argument": "spot"}, side_of, value, None, None)
            check_error(self, WrongKind, {"argument": "spot"}, distance_sign, value, None, None)
        for value in NO_POINTS:
            check_error(self, WrongKind, {"argument": "spot"}, side_of, ("at", value), None, None)
            check_error(self, WrongKind, {"argument": "spot"}, side_of, ("root", o, value, q(1)), None, None)
            check_error(self, WrongKind, {"argument": "spot"}, side_of, ("root", value, o, q(1)), None, None)
            check_error(self, WrongKind, {"argument": "one"}, side_of, spot, value, None)
            check_error(self, WrongKind, {"argument": "other"}, side_of, spot, o, value)
            check_error(self, WrongKind, {"argument": "centre"}, distance_sign, spot, value, None)
        for value in [*NO_RATIOS, q(-1), q(-1, 5)]:
            check_error(self, WrongKind, {"argument": "spot"}, side_of, ("root", o, o, value), None, None)
        for value in NO_POSITIVES:
            check_error(self, WrongKind, {"argument": "squared"}, distance_sign, spot, o, value)


class TestTurnPoint(unittest.TestCase):
    def test_small(self):
        for place, centre, tangent, due in [
            (point(1, 0), point(0, 0), q(0), point(1, 0)), (point(1, 0), point(0, 0), q(1), point(0, 1)),
            (point(1, 0), point(0, 0), q(-1), point(0, -1)),
            (point(5, 0), point(0, 0), q(1, 2), point(3, 4)), (point(5, 0), point(0, 0), q(2), point(-3, 4)),
            (point(3, 2), point(3, 2), q(7, 3), point(3, 2)), (point(2, 3), point(1, 1), q(1), point(-1, 2)),
            (point(0, 5), point(0, 0), q(-1, 2), point(4, 3)),
        ]:
            self.assertEqual(turn_point(place, centre, tangent), due)

    def test_many(self):
        source = random.Random(154)
        for _ in range(300):
            place, centre = some_point(source), some_point(source)
            tangent = q(source.randint(-9, 9), source.randint(1, 5))
            found = turn_point(place, centre, tangent)
            gap = square_of(("at", place), centre)
            self.assertEqual(square_of(("at", found), centre), gap)
            self.assertEqual(turn_point(found, centre, q(-fraction(tangent))), place)
            # It is turned to the left exactly if the tangent is positive: less than half a turn.
            turn = side_of(("at", found), centre, place)
            sign = (tangent[0] > 0) - (tangent[0] < 0)
            self.assertEqual(turn, sign if gap[0] else 0)

    def test_errors(self):
        o = point(0, 0)
        for value in NO_POINTS:
            check_error(self, WrongKind, {"argument": "point"}, turn_point, value, None, None)
            check_error(self, WrongKind, {"argument": "centre"}, turn_point, o, value, None)
        for value in NO_RATIOS:
            check_error(self, WrongKind, {"argument": "tangent"}, turn_point, o, o, value)


class TestChainReach(unittest.TestCase):
    def test_small(self):
        for squares, distance, due in [
            ([4], 4, ("reached",)), ([4], 5, ("far",)), ([4], 3, ("near", 0)), ([4], 0, ("near", 0)),
            ([2], 2, ("reached",)), ([4, 9], 25, ("reached",)), ([4, 9], 26, ("far",)), ([4, 9], 1, ("reached",)),
            ([4, 9], Fraction(1, 2), ("near", 1)), ([9, 4], Fraction(1, 2), ("near", 0)), ([4, 4], 0, ("reached",)),
            ([4, 9], 0, ("near", 1)), ([2, 8], 18, ("reached",)), ([2, 8], Fraction(1801, 100), ("far",)),
            ([2, 8], 2, ("reached",)), ([8, 2], Fraction(199, 100), ("near", 0)), ([2, 3], 9, ("reached",)),
            ([2, 3], 10, ("far",)), ([1, 1, 1], 9, ("reached",)), ([1, 1, 1], Fraction(901, 100), ("far",)),
            ([1, 1, 1], 0, ("reached",)), ([9, 1, 1], 1, ("reached",)), ([9, 1, 1], Fraction(99, 100), ("near", 0)),
            ([1, 9, 1], 0, ("near", 1)), ([1, 1, 16], 4, ("reached",)), ([1, 1, 16], 3, ("near", 2)),
            ([2, 8, 18], 72, ("reached",)), ([2, 8, 18], Fraction(7201, 100), ("far",)), ([2, 8, 18], 0, ("reached",)),
            ([2, 8, 32], 2, ("reached",)), ([2, 8, 32], Fraction(199, 100), ("near", 2)),
            ([2, 3, 5], 29, ("far",)), ([2, 3, 5], 28, ("reached",)), ([2, 3, 28], 2, ("near", 2)),
            ([2, 3, 5], 0, ("reached",)), ([4, 4], 16, ("reached",)), ([1, 1], 100, ("far",)),
        ]:
            self.assertEqual(chain_reach(qs(*squares), q(distance)), due, (squares, distance))

    def test_very_near(self):
        # The root of 2 plus the root of 3, to 25 digits: its square is 5 + 2 * root of 6.
        near = Fraction(isqrt(6 * 10 ** 60), 10 ** 30)
        for more, due in [(0, ("reached",)), (Fraction(1, 10 ** 29), ("far",))]:
            self.assertEqual(chain_reach(qs(2, 3), q(5 + 2 * near + more)), due)
            # A third bar of the same ratio does not change this.
            self.assertEqual(chain_reach(qs(2, 3, Fraction(1, 10 ** 90)), q(5 + 2 * near + more)), due)

    def test_many(self):
        source = random.Random(155)
        words = {}
        for _ in range(4000):
            squares = [Fraction(source.choice([1, 2, 3, 4, 5, 8, 9, 18, 25]), source.choice([1, 1, 1, 4]))
                       for _ in range(source.randint(1, 3))]
            distance = Fraction(source.choice([0, 1, 2, 4, 8, 9, 16, 18, 32, 36, 50, 72]), source.choice([1, 1, 4]))
            due = self.slow_reach(squares, distance)
            found = chain_reach([q(one) for one in squares], q(distance))
            self.assertEqual(found, due, (squares, distance))
            words[(len(squares), found[0])] = words.get((len(squares), found[0]), 0) + 1
            if len(squares) == 2 and distance:
                found = meet(point(0, 0), point(1, 0), *[q(one / distance) for one in squares])
                self.assertEqual(found[0] if found[0] in ("far", "near") else "reached", due[0])
        self.assertTrue(min(words.values()) > 30 and len(words) == 9, words)

    def slow_reach(self, squares, distance):
        """Roots are compared by fractions; a difference too small to be one is none."""
        lengths = [root_within(one)[0] for one in squares]
        gap = root_within(distance)[0]
        small = Fraction(1, 10 ** 50)
        if gap > sum(lengths) + small:
            return ("far",)
        for at, one in enumerate(lengths):
            if one > sum(lengths) - one + gap + small:
                return ("near", at)
        return ("reached",)

    def test_errors(self):
        for value in [None, 1, (), {}, "1", (q(1),), [None], [1], *[[q(1), one] for one in NO_POSITIVES]]:
            check_error(self, WrongKind, {"argument": "squares"}, chain_reach, value, None)
        check_error(self, WrongKind, {"argument": "squares"}, chain_reach, qs(1, 1, 1, 1, 0), q(1))
        for value in [*NO_RATIOS, q(-1), q(-1, 9)]:
            check_error(self, WrongKind, {"argument": "distance"}, chain_reach, [], value)
        for squares in ([], qs(1, 1, 1, 1), qs(1, 2, 3, 4, 5)):
            check_error(self, OutOfBounds, {"argument": "squares"}, chain_reach, squares, q(1))

    def test_nothing_changes(self):
        squares = qs(2, 3, 5)
        self.assertEqual(chain_reach(squares, q(1)), chain_reach(squares, q(1)))
        self.assertEqual(squares, qs(2, 3, 5))
