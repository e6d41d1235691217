import copy
import random
import unittest

from helpers import (
    HUGE, NO_FRAMES, NO_NAMES, NO_RATIOS, bars, check_error, check_fresh, crossed_square, forces, fraction, joints,
    point, q, triangle,
)
from reference import (
    check_grounds_kept, columns, independent, places_of, slow_rate, slow_rates, some_frames, speeds_of, unknowns,
)
from standframes.drives import drive, halfway, is_drive, swing
from standframes.errors import NotAlike, NotMotion, RepeatedName, UnknownName, WrongKind, ZeroBar
from standframes.frames import Frame
from standframes.loads import Load
from standframes.motions import is_motion, motions

NO_DRIVES = [
    None, 1, (), {}, "stretch", [None], [()], [["stretch", "ab", (1, 1)]], [("stretch", "ab")],
    [("Turn", "ab", (1, 1))], [("stretch", "ab", (1, 1), 1)], [("ab", "stretch", (1, 1))], [(None, "ab", (1, 1))],
    [("stretch", (1, 1), "ab")], [([], "ab", (1, 1))], (("turn", "ab", (1, 1)),), [("", "ab", (1, 1))],
    [("turn", "ab", (1, 1)), None],
]


def arm(**more):
    """A bar that turns about a fixed joint."""
    return Frame(joints(a=(0, 0), b=(3, 4)), bars("ab"), grounds=more.get("grounds", [("a", "fixed")]))


def turn_of(frame, velocities, bar):
    places, speeds = places_of(frame), speeds_of(velocities)
    one, other = frame.ends(bar)
    span, move = ([table[other][k] - table[one][k] for k in (0, 1)] for table in (places, speeds))
    return span[0] * move[1] - span[1] * move[0]


def length(frame, bar):
    return fraction(frame.squared(bar))


def some_drives(frame, source):
    names = [row[0] for row in frame.bars]
    told = [(word, bar) for word in ("stretch", "turn") for bar in names if source.random() < 0.3]
    source.shuffle(told)
    return [(word, bar, q(source.randint(-2, 2), source.randint(1, 2))) for word, bar in told]


class TestDrive(unittest.TestCase):
    def check_moves(self, frame, drives, velocities):
        check_grounds_kept(self, frame, velocities)
        due = {row[0]: 0 for row in frame.bars}
        due.update({bar: fraction(speed) for word, bar, speed in drives if word == "stretch"})
        self.assertEqual(slow_rates(frame, velocities), due)
        for word, bar, speed in drives:
            if word == "turn":
                self.assertEqual(turn_of(frame, velocities, bar), fraction(speed) * length(frame, bar))

    def check_blocked(self, frame, drives, pulls, twists, reactions):
        turns = [(bar, speed) for word, bar, speed in drives if word == "turn"]
        self.assertEqual([row[0] for row in pulls], [row[0] for row in frame.bars])
        self.assertEqual([row[0] for row in twists], [bar for bar, _ in turns])
        self.assertEqual([row[0] for row in reactions], [row[0] for row in frame.grounds])
        sums = {name: [0, 0] for name in places_of(frame)}
        for value, column in zip(unknowns(frame, pulls, reactions), columns(frame)):
            for k, name in enumerate(sums):
                sums[name][0] += value * column[2 * k]
                sums[name][1] += value * column[2 * k + 1]
        for bar, twist in twists:
            one, other = frame.ends(bar)
            (a, b), (c, d) = (places_of(frame)[name] for name in (one, other))
            x, y = -fraction(twist) * (d - b), fraction(twist) * (c - a)
            sums[other] = [sums[other][0] + x, sums[other][1] + y]
            sums[one] = [sums[one][0] - x, sums[one][1] - y]
        self.assertTrue(all(one == [0, 0] for one in sums.values()))
        held = dict(pulls)
        work = sum(fraction(held[bar]) * fraction(speed) for word, bar, speed in drives if word == "stretch")
        for (bar, speed), (_, twist) in zip(turns, twists):
            work -= fraction(twist) * fraction(speed) * length(frame, bar)
        self.assertNotEqual(work, 0)

    def test_no_drives(self):
        frame = arm()
        self.assertEqual(drive(frame, []), ("motion", forces(a=(0, 0), b=(0, 0))))
        self.assertEqual(drive(Frame([], []), []), ("motion", []))
        self.assertEqual(drive(crossed_square(), [])[0], "motion")

    def test_turn_and_stretch(self):
        for drives, moves in [
            ([("turn", "ab", q(1))], (-4, 3)), ([("turn", "ab", q(-1, 5))], (q(4, 5), q(-3, 5))),
            ([("stretch", "ab", q(25))], (q(25, 3), 0)), ([("stretch", "ab", q(25)), ("turn", "ab", q(1))], (-1, 7)),
            ([("turn", "ab", q(1)), ("stretch", "ab", q(25))], (-1, 7)), ([("turn", "ab", q(0))], (0, 0)),
        ]:
            x, y = (one if isinstance(one, tuple) else q(one) for one in moves)
            self.assertEqual(drive(arm(), drives), ("motion", [("a", q(0), q(0)), ("b", x, y)]))
            self.assertIs(is_drive(arm(), drives, drive(arm(), drives)), True)
        # An exchange of the ends changes nothing.
        other = Frame(arm().joints, [("ab", "b", "a", "prop")], grounds=arm().grounds)
        for drives in [[("turn", "ab", q(1))], [("stretch", "ab", q(1))]]:
            self.assertEqual(drive(other, drives), drive(arm(), drives))

    def test_plain_solution(self):
        # Without grounds, the last unknowns are the free ones.
        frame = Frame(joints(a=(0, 0), b=(3, 4)), bars("ab"))
        self.assertEqual(drive(frame, [("stretch", "ab", q(3))]), ("motion", forces(a=(-1, 0), b=(0, 0))))
        self.assertEqual(drive(frame, [("turn", "ab", q(1))]), ("motion", [
            ("a", q(4), q(-3)), ("b", q(0), q(0))]))

    def test_blocked(self):
        frame = triangle(grounds=[("a", "fixed"), ("b", point(1, 0))])
        self.assertEqual(drive(frame, [("stretch", "ab", q(1)), ("stretch", "bc", q(2))])[0], "motion")
        for drives in [[("turn", "bc", q(1))], [("turn", "ab", q(1, 2)), ("turn", "bc", q(1))],
                       [("stretch", "ca", q(1)), ("turn", "ca", q(2))]]:
            answer = drive(frame, drives)
            self.assertEqual(answer[0], "blocked")
            self.check_blocked(frame, drives, *answer[1:])
            self.assertIs(is_drive(frame, drives, answer), True)
        answer = drive(crossed_square(), [("stretch", "ac", q(1))])
        self.assertEqual((answer[0], answer[2], answer[3]), ("blocked", [], []))
        # Turns alone, all at one speed, move the whole.
        spin = [("turn", row[0], q(2)) for row in triangle().bars]
        self.assertEqual(drive(triangle(), spin)[0], "motion")
        self.assertEqual(drive(triangle(), spin[:2] + [("turn", "ca", q(3))])[0], "blocked")

    def test_many(self):
        source = random.Random(161)
        words = {"motion": 0, "blocked": 0}
        for frame, _ in some_frames(500, 162):
            drives = some_drives(frame, source)
            answer = drive(frame, drives)
            words[answer[0]] += 1
            self.assertIs(is_drive(frame, drives, answer), True)
            if answer[0] == "motion":
                self.check_moves(frame, drives, answer[1])
                self.check_plain(frame, drives, answer[1])
            else:
                self.check_blocked(frame, drives, *answer[1:])
        self.assertTrue(min(words.values()) > 100, words)

    def check_plain(self, frame, drives, velocities):
        """Each unknown that is free has the value zero."""
        rows = [list(column) for column in columns(frame)]
        for word, bar, _ in drives:
            if word == "turn":
                rows.append(self.turn_row(frame, bar))
        values = [fraction(item) for row in velocities for item in row[1:]]
        found = []
        for k, value in enumerate(values):
            if not independent(found, [row[k] for row in rows]):
                self.assertEqual(value, 0)

    def turn_row(self, frame, bar):
        one, other = frame.ends(bar)
        x, y = (fraction(item) for item in frame.span(bar))
        told = {one: (y, -x), other: (-y, x)}
        return [item for name, _, _ in frame.joints for item in told.get(name, (0, 0))]

    def test_is_drive(self):
        frame, drives = arm(), [("turn", "ab", q(1))]
        zeros = forces(a=(0, 0), b=(0, 0))
        for x, y, due in [(-4, 3, True), (-8, 6, False), (0, 0, False), (4, -3, False), (-1, 7, False)]:
            self.assertIs(is_drive(frame, drives, ("motion", forces(a=(0, 0), b=(x, y)))), due)
        self.assertIs(is_drive(frame, drives, ("motion", forces(a=(1, 0), b=(-3, 3)))), False)
        self.assertIs(is_drive(Frame(frame.joints, frame.bars), drives, ("motion", forces(a=(1, 0), b=(-3, 3)))), True)
        good = forces(a=(0, 0), b=(-4, 3))
        for answer in [
            None, 1, "motion", (), ("motion",), ["motion", good], ("motion", good, []), ("Motion", good),
            ("motion", good[::-1]), ("motion", tuple(good)), ("motion", good[:1]), ("motion", None), (None, good),
            ("blocked", good), ("motion", good, [], []), frame, ("motion", [list(row) for row in good]), {},
            ("blocked", [("ab", q(0))], [("ab", q(0))], [("a", q(0), q(0))]), ("motion", zeros),
        ]:
            self.assertIs(is_drive(frame, drives, answer), False)
        for value in NO_RATIOS:
            self.assertIs(is_drive(frame, drives, ("motion", [good[0], ("b", value, q(3))])), False)
        stretch = [("stretch", "ab", q(1))]
        self.assertIs(is_drive(frame, [], ("motion", good)), True)
        self.assertIs(is_drive(frame, stretch, ("motion", good)), False)

    def test_is_drive_blocked(self):
        frame = arm(grounds=[("a", "fixed"), ("b", "fixed")])
        drives = [("stretch", "ab", q(2)), ("turn", "ab", q(3))]

        def answer(pull, twist, a, b):
            return ("blocked", [("ab", q(pull))], [("ab", q(twist))], forces(a=a, b=b))

        for pull, twist, due in [(1, 0, True), (0, 1, True), (-2, 5, True), (0, 0, False), (75, 2, False),
            (75, 1, True)]:
            x, y = pull * 3 + twist * 4, pull * 4 - twist * 3
            good = answer(pull, twist, (-x, -y), (x, y))
            self.assertIs(is_drive(frame, drives, good), due)
            self.assertIs(is_drive(frame, drives, answer(pull, twist, (-x, -y), (x, y + 1))), False)
            word, pulls, twists, reactions = good
            for wrong in [
                (word, pulls, twists), list(good), (word, pulls, [], reactions), (word, pulls, twists * 2, reactions),
                (word, pulls, tuple(twists), reactions), (word, [], twists, reactions), (word, twists, pulls, []),
                (word, pulls, [["ab", q(twist)]], reactions), (word, pulls, [("ba", q(twist))], reactions),
                (word, pulls, twists, reactions[::-1]), (word, pulls, None, reactions), (word, None, None, None),
                ("Blocked", pulls, twists, reactions), ("motion", pulls, twists, reactions),
                (word, pulls, [("ab", (twist, True))], reactions), (word, pulls, [("ab", twist)], reactions),
                (None, pulls, twists, reactions), (*good, []), (word, pulls, twists, tuple(reactions)),
            ]:
                self.assertIs(is_drive(frame, drives, wrong), False)
        # The twists stand in the order of the drives.
        frame = triangle(grounds=[(name, "fixed") for name in "abc"])
        drives = [("turn", "bc", q(1)), ("stretch", "ab", q(0)), ("turn", "ab", q(0))]
        word, pulls, twists, reactions = drive(frame, drives)
        self.assertEqual((word, [row[0] for row in twists]), ("blocked", ["bc", "ab"]))
        self.assertIs(is_drive(frame, drives, (word, pulls, twists[::-1], reactions)), False)
        self.assertIs(is_drive(frame, drives, (word, pulls, twists, reactions)), True)

    def test_errors(self):
        frame = triangle()
        for call in (drive, lambda frame, drives: is_drive(frame, drives, None)):
            for value in NO_FRAMES:
                check_error(self, WrongKind, {"argument": "frame"}, call, value, None)
            for value in NO_DRIVES:
                check_error(self, WrongKind, {"argument": "drives"}, call, frame, value)
            for value in NO_NAMES:
                check_error(self, WrongKind, {"argument": "drives"}, call, frame, [("turn", value, q(1))])
            for value in NO_RATIOS:
                check_error(self, WrongKind, {"argument": "drives"}, call, frame, [("stretch", "ab", value)])
            for drives, name in [
                ([("turn", "ab", q(1)), ("turn", "ab", q(1))], "ab"),
                ([("turn", "zz", q(1)), ("stretch", "zz", q(1)), ("stretch", "yy", q(1)), ("stretch", "zz", q(0))],
                    "zz"),
                ([("turn", word, q(1)) for word in ("x", "y", "z", "y", "x")], "y"),
            ]:
                check_error(self, RepeatedName, {"repeated": name}, call, frame, drives)
            drives = [("turn", "ab", q(1)), ("stretch", "ba", q(1)), ("turn", "zz", q(1))]
            check_error(self, UnknownName, {"unknown": "ba"}, call, frame, drives)
            check_error(self, UnknownName, {"unknown": "a"}, call, frame, [("turn", "a", q(1))])

    def test_long_numbers(self):
        drives = [("turn", "ab", (HUGE, 1)), ("stretch", "ab", (1, HUGE))]
        self.assertIs(is_drive(arm(), drives, drive(arm(), drives)), True)

    def test_nothing_changes(self):
        frame = triangle(grounds=[("a", "fixed"), ("b", "fixed")])
        drives = [("stretch", "ab", q(1)), ("turn", "bc", q(1))]
        before = copy.deepcopy(drives)
        answer = drive(frame, drives)
        is_drive(frame, drives, answer)
        self.assertEqual((drives, frame), (before, triangle(grounds=[("a", "fixed"), ("b", "fixed")])))
        check_fresh(self, lambda: drive(frame, drives))
        check_fresh(self, lambda: drive(arm(), []))


class TestSwing(unittest.TestCase):
    def test_small(self):
        moves = forces(a=(0, 0), b=(-4, 3))
        one, other = swing(arm(), moves)
        self.assertEqual(one, Frame(joints(a=(0, 0), b=(-1, 7)), bars("ab"), grounds=[("a", "fixed")]))
        self.assertEqual(other, Frame(joints(a=(0, 0), b=(7, 1)), bars("ab"), grounds=[("a", "fixed")]))
        self.assertEqual(swing(Frame([], []), []), (Frame([], []), Frame([], [])))

    def test_many(self):
        for frame, _ in some_frames(200, 163):
            found = motions(frame)
            if not found:
                continue
            moves = [(name, q(sum(fraction(row[k][1]) * (at + 1) for at, row in enumerate(found))),
                      q(sum(fraction(row[k][2]) * (at + 1) for at, row in enumerate(found))))
                     for k, (name, _, _) in enumerate(frame.joints)]
            self.assertIs(is_motion(frame, moves), True)
            one, other = swing(frame, moves)
            for first, _, _ in frame.joints:
                for second, _, _ in frame.joints:
                    self.assertEqual(
                        self.gap(one, first, second) - self.gap(other, first, second),
                        4 * slow_rate(frame, moves, first, second))
            for bar, _, _, _ in frame.bars:
                self.assertEqual(one.squared(bar), other.squared(bar))
            self.assertEqual(halfway(one, other), (frame, moves))
            self.assertEqual(one.bars, frame.bars)
            self.assertEqual(other.grounds, frame.grounds)

    def gap(self, frame, one, other):
        (a, b), (c, d) = (places_of(frame)[name] for name in (one, other))
        return (a - c) ** 2 + (b - d) ** 2

    def test_errors(self):
        frame = arm()
        for value in NO_FRAMES:
            check_error(self, WrongKind, {"argument": "frame"}, swing, value, None)
        good = forces(a=(0, 0), b=(-4, 3))
        for value in [None, 1, (), [], good[::-1], good[:1], tuple(good), {}, [("a", q(0), q(0)), ("c", q(0), q(0))]]:
            check_error(self, WrongKind, {"argument": "velocities"}, swing, frame, value)
        for value in NO_RATIOS:
            check_error(self, WrongKind, {"argument": "velocities"}, swing, frame, [good[0], ("b", value, q(1))])
        for moves in [forces(a=(0, 0), b=(3, 4)), forces(a=(-4, 3), b=(-4, 3))]:
            check_error(self, NotMotion, {"subject": None}, swing, frame, moves)


class TestHalfway(unittest.TestCase):
    def test_small(self):
        one = Frame(joints(a=(0, 0), b=(5, 0)), bars("ab"), grounds=[("a", "fixed")])
        other = Frame(joints(a=(0, 0), b=(3, 4)), bars("ab"), grounds=[("a", "fixed")])
        middle = Frame(joints(a=(0, 0), b=(4, 2)), bars("ab"), grounds=[("a", "fixed")])
        self.assertEqual(halfway(one, other), (middle, forces(a=(0, 0), b=(1, -2))))
        self.assertEqual(halfway(other, one), (middle, forces(a=(0, 0), b=(-1, 2))))
        self.assertEqual(halfway(one, one), (one, forces(a=(0, 0), b=(0, 0))))
        self.assertEqual(halfway(Frame([], []), Frame([], [])), (Frame([], []), []))
        odd = Frame(joints(a=(0, 0), b=(3, -4)), bars("ab"), grounds=[("a", "fixed")])
        self.assertEqual(halfway(other, odd)[0].place("b"), point(3, 0))
        self.assertEqual(halfway(one, odd), (
            Frame(joints(a=(0, 0), b=(4, -2)), bars("ab"), grounds=[("a", "fixed")]), forces(a=(0, 0), b=(1, 2))))

    def test_zero_bar(self):
        places = joints(a=(0, 0), b=(1, 0), c=(5, 5), d=(6, 5))
        flipped = joints(a=(1, 0), b=(0, 0), c=(6, 5), d=(5, 5))
        lines = bars("cd", "ab")
        check_error(self, ZeroBar, {"subject": "cd"}, halfway, Frame(places, lines), Frame(flipped, lines))
        check_error(self, ZeroBar, {"subject": "ab"}, halfway, Frame(places, lines[::-1]), Frame(flipped, lines[::-1]))
        # Joints that no bar joins may come to one place.
        self.assertEqual(halfway(Frame(places, []), Frame(flipped, []))[0].place("a"), (q(1, 2), q(0)))

    def test_alike(self):
        def two(x, y, role="rod", ground=("a", "fixed"), name="b", start=(0, 0)):
            return Frame([("a", q(start[0]), q(start[1])), (name, q(x), q(y))], [("ab", "a", name, role)],
                grounds=[ground])

        frame = two(3, 4)
        halfway(frame, two(5, 0))
        for other in [
            two(5, 1), two(3, 4, role="tie"), two(3, 4, ground=("b", "fixed")),
            two(3, 4, name="c", ground=("a", "fixed")),
            two(3, 4, ground=("a", point(1, 0))), Frame(frame.joints, frame.bars), two(4, 5, start=(1, 1)),
            Frame(frame.joints[::-1], frame.bars, grounds=frame.grounds), Frame([], []), two(3, 5),
            Frame(frame.joints, [("ab", "b", "a", "rod")], grounds=frame.grounds),
            Frame(frame.joints, [("ba", "a", "b", "rod")], grounds=frame.grounds),
            Frame(frame.joints + joints(c=(9, 9)), frame.bars, grounds=frame.grounds),
            Frame(frame.joints, [], grounds=frame.grounds),
        ]:
            check_error(self, NotAlike, {"subject": None}, halfway, frame, other)
            check_error(self, NotAlike, {"subject": None}, halfway, other, frame)

    def test_sliding(self):
        def rail(a, b, way):
            return Frame([("a", *a), ("b", *b)], bars("ab"), grounds=[("a", way)])

        one = rail(point(0, 0), point(0, 1), point(1, 2))
        halfway(one, rail(point(2, 4), point(2, 5), point(1, 2)))
        check_error(self, NotAlike, {"subject": None}, halfway, one, rail(point(2, 3), point(2, 4), point(1, 2)))
        # A multiple of the direction is another direction.
        check_error(self, NotAlike, {"subject": None}, halfway, one, rail(point(0, 0), point(0, 1), point(2, 4)))
        # The order of the grounds counts.
        grounds = [("a", "fixed"), ("b", point(1, 1))]
        two = Frame(joints(a=(0, 0), b=(1, 1)), [], grounds=grounds)
        halfway(two, two)
        check_error(self, NotAlike, {"subject": None}, halfway, two, Frame(two.joints, [], grounds=grounds[::-1]))
        self.assertEqual(halfway(two, Frame(joints(a=(0, 0), b=(3, 3)), [], grounds=grounds))[1], forces(
            a=(0, 0), b=(-1, -1)))

    def test_many(self):
        source = random.Random(164)
        for frame, _ in some_frames(100, 165):
            lines = Frame(frame.joints, [], grounds=[row for row in frame.grounds if row[1] != "fixed"])
            places = []
            ways = dict(lines.grounds)
            for name, x, y in lines.joints:
                k = source.randint(-3, 3)
                a, b = ways.get(name, point(1, 5))
                places.append((name, q(fraction(x) + k * fraction(a)), q(fraction(y) + k * fraction(b))))
            other = Frame(places, [], grounds=lines.grounds)
            middle, moves = halfway(lines, other)
            self.assertIs(is_motion(middle, moves), True)
            self.assertEqual(swing(middle, moves), (lines, other))

    def test_errors(self):
        for value in NO_FRAMES:
            check_error(self, WrongKind, {"argument": "frame"}, halfway, value, None)
            check_error(self, WrongKind, {"argument": "other"}, halfway, arm(), value)
        self.assertEqual(Load([]).count(), 0)

    def test_fresh(self):
        check_fresh(self, lambda: halfway(arm(), arm())[1])
