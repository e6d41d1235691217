import copy
import itertools
import random
import unittest

from helpers import (
    NO_FRAMES, NO_NAMES, bars, check_error, check_fresh, crossed_square, fraction, joints, point, q, triangle, wheel,
)
from reference import first_meeting, flat_frames
from standframes.errors import NotCover, NotFlat, UnknownName, WrongKind
from standframes.faces import crossing, double_area, faces, is_cover, is_flat, outer_face, ring
from standframes.frames import Frame
from standframes.loads import Load

def two_bars(*places):
    return Frame(joints(**dict(zip("abcd", places))), bars("ab", "cd"))


def some_frames(number, seed):
    source = random.Random(seed)
    for _ in range(number):
        count = source.randint(0, 7)
        names = source.sample("abcdefgh", count)
        places = [(name, q(source.randint(0, 6), source.randint(1, 2)), q(source.randint(0, 6))) for name in names]
        spot = {row[0]: row[1:] for row in places}
        pairs = [(one, other) for one, other in itertools.combinations(names, 2) if spot[one] != spot[other]]
        chosen = source.sample(pairs, source.randint(0, min(len(pairs), 2 * count)))
        yield Frame(places, [(f"b{k}", *source.sample(pair, 2), "rod") for k, pair in enumerate(chosen)])


def walks_of(follows):
    """All walks, where follows tells which neighbour follows which one around a joint."""
    runs = {(joint, follows[joint, x]) for joint, x in follows}
    walks = []
    while runs:
        run = min(runs)
        walk = []
        while run in runs:
            runs.discard(run)
            walk.append(run[0])
            run = (run[1], follows[run[1], run[0]])
        walks.append(walk)
    return walks


class TestCrossing(unittest.TestCase):
    def test_two_bars(self):
        for places, due in [
            (((0, 0), (2, 2), (0, 2), (2, 0)), True), (((0, 0), (2, 0), (1, 0), (1, 5)), True),
            (((1, 0), (1, 5), (0, 0), (2, 0)), True), (((0, 0), (2, 0), (2, 0), (3, 3)), True),
            (((0, 0), (2, 0), (1, 0), (5, 0)), True), (((0, 0), (5, 0), (1, 0), (2, 0)), True),
            (((1, 0), (2, 0), (0, 0), (5, 0)), True), (((0, 0), (2, 0), (3, 0), (5, 0)), False),
            (((0, 0), (2, 0), (0, 1), (2, 1)), False), (((0, 0), (2, 0), (3, -1), (3, 1)), False),
            (((0, 0), (2, 0), (1, 1), (1, 5)), False), (((0, 0), (2, 0), (0, 0), (2, 0)), True),
            (((0, 0), (2, 0), (2, 0), (0, 0)), True), (((0, 0), (2, 0), (2, 0), (4, 0)), True),
            (((0, 0), (4, 2), (2, 1), (9, 9)), True), (((0, 0), (4, 2), (6, 3), (9, 9)), False),
            (((0, 0), (0, 3), (0, 4), (0, 5)), False), (((0, 0), (0, 3), (0, 2), (0, 5)), True),
            (((0, 0), (4, 0), (3, 1), (5, -3)), True), (((0, 0), (4, 0), (4, 1), (6, -3)), False),
        ]:
            for a, b, c, d in [(0, 1, 2, 3), (1, 0, 2, 3), (0, 1, 3, 2), (2, 3, 0, 1), (3, 2, 1, 0)]:
                frame = two_bars(places[a], places[b], places[c], places[d])
                self.assertEqual(crossing(frame), ("ab", "cd") if due else None, places)

    def test_common_end(self):
        for b, c, due in [
            ((2, 0), (0, 2), False), ((2, 0), (-1, 0), False), ((2, 0), (1, 0), True), ((1, 0), (2, 0), True),
            ((2, 0), (2, 0), True), ((2, 4), (3, 6), True), ((2, 4), (-3, -6), False), ((0, 3), (0, 1), True),
            ((2, 1), (2, 2), False),
        ]:
            for words in [("ab", "ac"), ("ba", "ac"), ("ab", "ca"), ("ba", "ca")]:
                frame = Frame(joints(a=(0, 0), b=b, c=c), bars(*words))
                self.assertEqual(crossing(frame), words if due else None)
                self.assertIs(is_flat(frame), not due)

    def test_earliest_pair(self):
        frame = crossed_square()
        self.assertEqual(crossing(frame), ("ac", "bd"))
        self.assertEqual(crossing(Frame(frame.joints, frame.bars[::-1])), ("bd", "ac"))
        frame = Frame(joints(a=(0, 0), b=(4, 0), c=(1, 1), d=(1, -1), e=(2, 1), f=(2, -1), g=(0, 2), h=(3, 0)),
                      bars("gh", "cd", "ab", "ef"))
        self.assertEqual(crossing(frame), ("gh", "ab"))
        frame = Frame(frame.joints, bars("ef", "cd", "ab"))
        self.assertEqual(crossing(frame), ("ef", "ab"))
        frame = Frame(frame.joints, bars("ab", "ef", "cd"))
        self.assertEqual(crossing(frame), ("ab", "ef"))

    def test_two_joints_at_one_place(self):
        frame = Frame(joints(a=(0, 0), b=(1, 0), c=(1, 0), d=(2, 0)), bars("ab", "cd"))
        self.assertEqual(crossing(frame), ("ab", "cd"))
        frame = Frame(joints(a=(0, 0), b=(1, 0), c=(1, 0)), bars("ab", "ac"))
        self.assertEqual(crossing(frame), ("ab", "ac"))
        frame = Frame(joints(a=(0, 0), b=(1, 0), c=(1, 0)), bars("ab"))
        self.assertIsNone(crossing(frame))

    def test_many(self):
        found = 0
        for frame in some_frames(300, 41):
            due = first_meeting(frame)
            self.assertEqual(crossing(frame), due)
            found += due is not None
        self.assertTrue(60 < found < 280, found)

    def test_empty(self):
        self.assertIsNone(crossing(Frame([], [])))
        self.assertIsNone(crossing(Frame(joints(a=(0, 0)), [])))


class TestFlat(unittest.TestCase):
    def test_values(self):
        self.assertIs(is_flat(wheel()), True)
        self.assertIs(is_flat(triangle()), True)
        self.assertIs(is_flat(crossed_square()), False)
        self.assertIs(is_flat(Frame([], [])), False)
        self.assertIs(is_flat(Frame(joints(a=(0, 0)), [])), False)
        self.assertIs(is_flat(Frame(joints(a=(0, 0), b=(1, 0)), bars("ab"))), True)
        self.assertIs(is_flat(Frame(joints(a=(0, 0), b=(1, 0), c=(5, 5)), bars("ab"))), False)
        self.assertIs(is_flat(Frame(joints(c=(5, 5), a=(0, 0), b=(1, 0)), bars("ab"))), False)
        self.assertIs(is_flat(two_bars((0, 0), (1, 0), (0, 1), (1, 1))), False)
        self.assertIs(is_flat(Frame(joints(a=(0, 0), b=(2, 0), c=(1, 0)), bars("ab", "bc"))), False)
        self.assertIs(is_flat(Frame(joints(a=(0, 0), d=(3, 1), b=(1, 0), c=(2, 0)), bars("cd", "bc", "ab"))), True)

    def test_grounds_and_roles_have_no_effect(self):
        frame = Frame(wheel().joints, bars("ab", "bc", "ca", "ad", "bd", "cd", role="tie"),
                      grounds=[("a", "fixed"), ("d", point(1, 1))])
        self.assertIs(is_flat(frame), True)
        self.assertEqual(faces(frame), faces(wheel()))


class TestFaces(unittest.TestCase):
    def test_small(self):
        pair = Frame(joints(a=(0, 0), b=(1, 0)), bars("ba"))
        self.assertEqual(faces(pair), [["b", "a"]])
        self.assertEqual(faces(wheel()), [["a", "b", "d"], ["b", "a", "c"], ["b", "c", "d"], ["c", "a", "d"]])
        path = Frame(joints(a=(0, 0), b=(1, 0), c=(2, 1)), bars("ab", "bc"))
        self.assertEqual(faces(path), [["a", "b", "c", "b"]])
        straight = Frame(joints(a=(0, 0), b=(1, 0), c=(2, 0)), bars("cb", "ab"))
        self.assertEqual(faces(straight), [["c", "b", "a", "b"]])

    def test_running_back(self):
        # A triangle with a bar that ends inside of it, and one outside.
        frame = Frame(joints(a=(0, 0), b=(6, 0), c=(0, 6), i=(1, 1), o=(9, 0)), bars("ab", "bc", "ca", "ai", "bo"))
        self.assertEqual(faces(frame), [["a", "b", "c", "a", "i"], ["b", "a", "c", "b", "o"]])
        self.assertEqual(outer_face(frame), 1)
        self.assertEqual(ring(frame, faces(frame), "a"), [0, 1, 0])

    def test_star_turns_clockwise(self):
        spots = [(1, 0), (2, 1), (1, 1), (0, 1), (-1, 1), (-1, 0), (-2, -1), (-1, -1), (0, -1), (1, -1), (3, -1)]
        names = "abcdefghijk"
        for order in (range(11), [3, 10, 0, 7, 5, 1, 9, 2, 8, 6, 4]):
            places = joints(**{names[k]: spots[k] for k in order})
            lines = [(f"{names[k]}{names[k]}", "o", names[k], "rod") for k in order]
            frame = Frame(places + joints(o=(0, 0)), lines)
            start = lines[0][2]
            turn = names[names.index(start)::-1] + names[:names.index(start):-1]
            walk = faces(frame)
            self.assertEqual(len(walk), 1)
            self.assertEqual(walk[0], [name for end in turn for name in ("o", end)])
            self.assertEqual(ring(frame, walk, "o"), [0] * 11)

    def test_begins_with_the_earliest_run(self):
        frame = Frame(triangle().joints, [("p", "c", "b", "rod"), ("q", "a", "c", "rod"), ("r", "b", "a", "rod")])
        self.assertEqual(faces(frame), [["c", "b", "a"], ["b", "c", "a"]])

    def test_many(self):
        for frame in flat_frames(120, 42):
            self.assertIs(is_flat(frame), True)
            walks = faces(frame)
            self.assertIs(is_cover(frame, walks), True)
            runs = [run for _, one, other, _ in frame.bars for run in ((one, other), (other, one))]
            told = [list(zip(walk, walk[1:] + walk[:1])) for walk in walks]
            self.assertEqual(sorted(run for walk in told for run in walk), sorted(runs))
            firsts = [runs.index(walk[0]) for walk in told]
            self.assertEqual(firsts, sorted(firsts))
            for walk in told:
                self.assertEqual(runs.index(walk[0]), min(runs.index(run) for run in walk))
            areas = [fraction(double_area(frame, walk)) for walk in walks]
            self.assertEqual(sum(areas), 0)
            outer = [at for at, area in enumerate(areas) if area <= 0]
            self.assertEqual(outer, [outer_face(frame)])
            # A mirror exchanges left and right, so each walk turns round.
            mirror = Frame([(name, x, q(-fraction(y))) for name, x, y in frame.joints], frame.bars)
            turned = [sorted((other, one) for one, other in walk) for walk in told]
            again = [sorted(zip(walk, walk[1:] + walk[:1])) for walk in faces(mirror)]
            self.assertEqual(sorted(turned), sorted(again))

    def test_errors(self):
        for call in (faces, outer_face):
            for value in NO_FRAMES:
                check_error(self, WrongKind, {"argument": "frame"}, call, value)
            for frame in [
                Frame([], []), Frame(joints(a=(0, 0)), []), crossed_square(), two_bars((0, 0), (1, 0), (0, 1), (1, 1)),
            ]:
                check_error(self, NotFlat, {"subject": None}, call, frame)
        for value in NO_FRAMES:
            check_error(self, WrongKind, {"argument": "frame"}, crossing, value)
            check_error(self, WrongKind, {"argument": "frame"}, is_flat, value)
            check_error(self, WrongKind, {"argument": "frame"}, is_cover, value, None)
            check_error(self, WrongKind, {"argument": "frame"}, double_area, value, None)
            check_error(self, WrongKind, {"argument": "frame"}, ring, value, None, None)

    def test_fresh(self):
        check_fresh(self, lambda: faces(wheel()))
        check_fresh(self, lambda: ring(wheel(), faces(wheel()), "d"))


class TestArea(unittest.TestCase):
    def test_values(self):
        frame = Frame(joints(a=(1, 1), b=(5, 1), c=(5, 4), d=(1, 4)), bars("ab"))
        self.assertEqual(double_area(frame, ["a", "b", "c"]), q(12))
        self.assertEqual(double_area(frame, ["c", "b", "a"]), q(-12))
        self.assertEqual(double_area(frame, ["a", "b", "c", "d"]), q(24))
        self.assertEqual(double_area(frame, ["a", "c", "b", "d"]), q(0))
        self.assertEqual(double_area(frame, ["a", "b", "c", "a", "b", "c"]), q(24))
        for walk in ([], ["a"], ["a", "a"], ["a", "b"], ["b", "b", "c"]):
            self.assertEqual(double_area(frame, walk), q(0))
        half = Frame([("a", q(1, 2), q(0)), ("b", q(0), q(1, 3)), ("c", q(0), q(0))], [])
        self.assertEqual(double_area(half, ["c", "a", "b"]), q(1, 6))

    def test_errors(self):
        for value in [None, "ab", ("a", "b"), {}, 3, [None], [["a"]]] + [["x", name] for name in NO_NAMES]:
            check_error(self, WrongKind, {"argument": "walk"}, double_area, triangle(), value)
        check_error(self, UnknownName, {"unknown": "x"}, double_area, triangle(), ["a", "x", "y"])
        check_error(self, UnknownName, {"unknown": "ab"}, double_area, triangle(), ["ab"])


class TestCover(unittest.TestCase):
    def test_any_order_and_any_first_run(self):
        frame = wheel()
        walks = faces(frame)
        for order in itertools.permutations(walks):
            for turn in (0, 1, 2):
                self.assertIs(is_cover(frame, [walk[turn:] + walk[:turn] for walk in order]), True)
        self.assertIs(is_cover(frame, [walk[::-1] for walk in walks]), True)
        self.assertIs(is_cover(frame, [walks[0][::-1]] + walks[1:]), False)
        self.assertIs(is_cover(frame, [walk[::-1] for walk in walks[:2]] + walks[2:]), False)

    def test_places_have_no_effect(self):
        square = crossed_square()
        walks = [["a", "b", "c"], ["a", "c", "d"], ["b", "a", "d"], ["c", "b", "d"]]
        self.assertIs(is_cover(square, walks), True)
        flat = Frame(joints(a=(0, 0), b=(1, 0), c=(2, 0), d=(9, 0)), square.bars)
        self.assertIs(is_cover(flat, walks), True)

    def test_runs_back(self):
        pair = Frame(joints(a=(0, 0), b=(1, 0)), bars("ab"))
        self.assertIs(is_cover(pair, [["a", "b"]]), True)
        self.assertIs(is_cover(pair, [["b", "a"]]), True)
        for walks in [[], [[]], [["a"]], [["a", "b"], []], [["a", "b"], ["a", "b"]], [["a", "b", "a", "b"]],
                      [["a"], ["b"]],
                      [["a", "a"]], [["a", "b", "b"]], [["a", "c"]]]:
            self.assertIs(is_cover(pair, walks), False)
        path = Frame(joints(a=(0, 0), b=(1, 0), c=(2, 1)), bars("ab", "bc"))
        self.assertIs(is_cover(path, [["c", "b", "a", "b"]]), True)
        # Each run once, but the neighbours of b are two rings, and there are too many walks.
        self.assertIs(is_cover(path, [["a", "b"], ["b", "c"]]), False)

    def test_other_covers_of_a_star(self):
        star = Frame(joints(o=(0, 0), a=(1, 0), b=(0, 1), c=(-1, -1)), bars("oa", "ob", "oc"))
        self.assertIs(is_cover(star, [["o", "a", "o", "b", "o", "c"]]), True)
        self.assertIs(is_cover(star, [["o", "b", "o", "a", "o", "c"]]), True)
        self.assertIs(is_cover(star, [["o", "a", "o", "b"], ["o", "c"]]), False)
        self.assertEqual(faces(star), [["o", "a", "o", "c", "o", "b"]])

    def test_number_of_walks(self):
        # Every run once and one ring at each joint, but the walks close a ring with a hole.
        square = crossed_square()
        found = [0, 0]
        for turns in itertools.product((0, 1), repeat=4):
            walks = self.walks_of_turns(square, turns)
            due = len(walks) == 4
            self.assertIs(is_cover(square, walks), due)
            found[due] += 1
        self.assertEqual(found, [14, 2])

    def test_right_number_but_other_faults(self):
        # With a hole in it, a cover of the square has two walks too few; what is not allowed makes up for them.
        square = crossed_square()
        turns = [turns for turns in itertools.product((0, 1), repeat=4) if len(self.walks_of_turns(square, turns)) == 2]
        for walks in [self.walks_of_turns(square, turn) for turn in turns]:
            self.assertIs(is_cover(square, walks), False)
            self.assertIs(is_cover(square, walks + [[], []]), False)
            self.assertIs(is_cover(square, walks + [["a"], ["b"]]), False)
            pieces = Frame(square.joints + joints(e=(7, 7), f=(8, 7)), square.bars + bars("ef"))
            self.assertIs(is_cover(pieces, walks + [["e", "f"]]), False)

    def walks_of_turns(self, frame, turns):
        """Walks in which the neighbours of each joint follow each other forwards or backwards."""
        follows = {}
        for (name, _, _), turn in zip(frame.joints, turns):
            near = [other for other, _, _ in frame.joints if other != name]
            near = near[::-1] if turn else near
            for x, y in zip(near, near[1:] + near[:1]):
                follows[name, x] = y
        return walks_of(follows)

    def test_two_rings_at_one_joint(self):
        # Two triangles that touch at a: one walk too many, and two rings around a.
        frame = Frame(joints(a=(0, 0), b=(2, 1), c=(1, 2), d=(-2, -1), e=(-1, -2)),
                      bars("ab", "bc", "ca", "ad", "de", "ea"))
        walks = faces(frame)
        self.assertEqual(len(walks), 3)
        self.assertIs(is_cover(frame, walks), True)
        self.assertIs(is_cover(frame, [["a", "b", "c"], ["c", "b", "a"], ["a", "d", "e"], ["e", "d", "a"]]), False)
        self.assertIs(is_cover(frame, [["a", "b", "c"], ["c", "b", "a"], ["a", "d", "e", "a", "e", "d"]]), False)

    def test_two_rings_but_the_right_number(self):
        # A joint with two rings and, elsewhere, walks that are joined: only the rings tell.
        frame = Frame(joints(a=(0, 0), b=(2, 1), c=(1, 2), d=(-2, -1), e=(-1, -2)),
                      bars("ab", "bc", "ca", "ad", "de", "ea", "be"))
        found = [walks for walks in self.all_walks(frame) if len(walks) == 4]
        covers = [walks for walks in found if self.one_ring_each(frame, walks)]
        self.assertTrue(0 < len(covers) < len(found))
        for walks in found:
            self.assertIs(is_cover(frame, walks), walks in covers)

    def all_walks(self, frame):
        """All lists of walks in which each run occurs once."""
        near = {name: [] for name, _, _ in frame.joints}
        for _, one, other, _ in frame.bars:
            near[one].append(other)
            near[other].append(one)
        names = list(near)
        for orders in itertools.product(*[itertools.permutations(near[name]) for name in names]):
            follows = {(name, x): y for name, order in zip(names, orders) for x, y in zip(near[name], order)}
            yield walks_of(follows)

    def one_ring_each(self, frame, walks):
        follows = {}
        for walk in walks:
            for x, joint, y in zip(walk, walk[1:] + walk[:1], walk[2:] + walk[:2]):
                follows[joint, x] = y
        for name, _, _ in frame.joints:
            near = [x for joint, x in follows if joint == name]
            seen = [near[0]]
            while follows[name, seen[-1]] != near[0]:
                seen.append(follows[name, seen[-1]])
            if len(seen) != len(near):
                return False
        return True

    def test_not_connected(self):
        frame = Frame(joints(a=(0, 0), b=(1, 0), c=(0, 1), d=(1, 1)), bars("ab", "cd"))
        self.assertIs(is_cover(frame, [["a", "b"], ["c", "d"]]), False)
        alone = Frame(joints(a=(0, 0), b=(1, 0), c=(0, 1)), bars("ab"))
        self.assertIs(is_cover(alone, [["a", "b"]]), False)
        self.assertIs(is_cover(Frame([], []), []), False)
        self.assertIs(is_cover(Frame(joints(a=(0, 0)), []), []), False)
        self.assertIs(is_cover(Frame(joints(a=(0, 0)), []), [["a"]]), False)
        # The numbers fit, but the frame is in two pieces.
        frame = Frame(joints(a=(0, 0), b=(4, 0), c=(0, 4), d=(9, 9), e=(8, 9)), bars("ab", "bc", "ca", "de"))
        self.assertIs(is_cover(frame, [["a", "b", "c"], ["c", "b", "a"], ["d", "e"]]), False)
        self.assertIs(is_cover(frame, [["a", "b", "c", "a", "c", "b"], ["d", "e"]]), False)

    def test_other_values(self):
        frame = wheel()
        walks = faces(frame)
        self.assertIs(is_cover(frame, walks), True)
        for value in [
            None, 1, "ab", tuple(walks), [tuple(walk) for walk in walks], walks[:-1], walks + walks[-1:], walks + [[]],
            walks[:-1] + [["c", "a", "x"]], walks[:-1] + [["c", "a", "A"]], walks[:-1] + [["c", "a", None]], [], {},
            walks[:-1] + [["c", "a", "d", "d"]], walks[:-1] + ["cad"], walks[:-1] + [None], frame, [frame], Load([]),
            walks[:-1] + [["c", "a", frame]], walks[:-1] + [["c", "a", ["d"]]], walks[:-1] + [["c", "a"]],
            [0, 1, 2, 3], walks[:-1] + [["c", "d", "a"]], [[walk] for walk in walks], NotCover(), True,
            walks[:-1] + [["c", "a", "d", "c", "a", "d"]], [walks[0] + walks[1]] + walks[2:],
        ]:
            self.assertIs(is_cover(frame, value), False)


class TestRing(unittest.TestCase):
    def test_clockwise(self):
        frame = wheel()
        walks = faces(frame)
        self.assertEqual([ring(frame, walks, name) for name in "abcd"],
                         [[0, 1, 3], [1, 0, 2], [1, 2, 3], [0, 3, 2]])

    def test_reversed_cover(self):
        frame = wheel()
        walks = [walk[::-1] for walk in faces(frame)]
        # Around a: b, then d, then c; to the left of the runs to them.
        self.assertEqual(ring(frame, walks, "a"), [1, 0, 3])
        self.assertEqual(ring(frame, walks[::-1], "a"), [2, 3, 0])

    def test_walks_in_another_order(self):
        frame = wheel()
        walks = faces(frame)
        order = [2, 0, 3, 1]
        shuffled = [walks[k][1:] + walks[k][:1] for k in order]
        for name in "abcd":
            due = [order.index(k) for k in ring(frame, walks, name)]
            self.assertEqual(ring(frame, shuffled, name), due)

    def test_one_bar(self):
        pair = Frame(joints(a=(0, 0), b=(1, 0)), bars("ab"))
        self.assertEqual(ring(pair, [["b", "a"]], "a"), [0])
        path = Frame(joints(a=(0, 0), b=(1, 0), c=(2, 1)), bars("ab", "bc"))
        self.assertEqual(ring(path, faces(path), "b"), [0, 0])

    def test_many(self):
        for frame in flat_frames(60, 43):
            walks = faces(frame)
            left = {}
            for at, walk in enumerate(walks):
                for run in zip(walk, walk[1:] + walk[:1]):
                    left[run] = at
            for name, x, y in frame.joints:
                near = [frame.ends(bar) for bar in frame.bars_at(name)]
                near = [one if other == name else other for one, other in near]
                # Clockwise around the joint by the angle, from the first neighbour on.
                order = sorted(near, key=lambda other: self.angle(frame, name, near[0], other))
                self.assertEqual(ring(frame, walks, name), [left[name, other] for other in order])

    def angle(self, frame, joint, first, other):
        """Grows with the clockwise turn from the first neighbour to the other one."""
        (ax, ay), (bx, by), (cx, cy) = (
            tuple(fraction(item) for item in frame.place(name)) for name in (joint, first, other))
        ux, uy, vx, vy = bx - ax, by - ay, cx - ax, cy - ay
        along, aside = ux * vx + uy * vy, vx * uy - vy * ux
        long = abs(along) + abs(aside)
        return 1 - along / long if aside >= 0 else 3 + along / long

    def test_errors(self):
        frame = wheel()
        walks = faces(frame)
        for value in [None, (), tuple(walks), "ab", [("a", "b")], [["a", 1]], [None], {}, ["ab"], [["a", "B"]]]:
            check_error(self, WrongKind, {"argument": "walks"}, ring, frame, value, None)
        for name in NO_NAMES:
            check_error(self, WrongKind, {"argument": "joint"}, ring, frame, [], name)
        check_error(self, UnknownName, {"unknown": "x"}, ring, frame, [["y", "y"]], "x")
        for value in [[], [[]], walks[:-1], walks + [[]], [["x"]], [["x", "y"], ["x", "y"]], walks + walks]:
            check_error(self, NotCover, {"subject": None}, ring, frame, value, "a")
        check_error(self, NotCover, {"subject": None}, ring, Frame(joints(a=(0, 0)), []), [], "a")

    def test_arguments_stay(self):
        frame = wheel()
        walks = faces(frame)
        before = copy.deepcopy(walks)
        ring(frame, walks, "a")
        is_cover(frame, walks)
        self.assertEqual(walks, before)
