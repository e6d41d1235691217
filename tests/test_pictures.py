import copy
import random
import unittest

from helpers import (
    NO_FRAMES, NO_NAMES, NO_POINTS, NO_RATIOS, bars, check_error, check_fresh, crossed_square, fraction, joints, point,
    q, triangle, wheel,
)
from reference import flat_frames, places_of
from standframes.changes import bare
from standframes.errors import NoReciprocal, NotCover, NotOwnStress, NotPicture, OutOfBounds, UnknownName, WrongKind
from standframes.faces import faces, is_cover, is_flat, ring
from standframes.forces import is_own_stress, own_stresses
from standframes.frames import Frame
from standframes.loads import Load, pull_load
from standframes.pictures import force_polygon, is_picture, picture, picture_pulls, reciprocal

NO_WALKS = [None, 1, "abc", (), {}, ["abc"], [("a", "b")], [["a", "b"], None], [["a", 1]], [["a", "B"]], triangle()]


def runs(walk):
    return list(zip(walk, walk[1:] + walk[:1]))


def sides(frame, walks):
    """The indexes of the left and the right walk of each bar."""
    left = {run: at for at, walk in enumerate(walks) for run in runs(walk)}
    return [(left[one, other], left[other, one]) for _, one, other, _ in frame.bars]


def spans(frame):
    places = places_of(frame)
    return [tuple(places[other][k] - places[one][k] for k in (0, 1)) for _, one, other, _ in frame.bars]


def numbers(spot):
    return (fraction(spot[0]), fraction(spot[1]))


def turned(walks, source):
    """The same cover with its walks in another order, each beginning anywhere."""
    mixed = []
    for walk in source.sample(walks, len(walks)):
        at = source.randrange(len(walk))
        mixed.append(walk[at:] + walk[:at])
    return mixed


def mixed_stress(frame, source):
    """Some own stress."""
    found = own_stresses(frame)
    factors = [source.choice([-2, -1, 1, 3]) for _ in found]
    return [
        (row[0], q(sum(factor * fraction(pulls[k][1]) for factor, pulls in zip(factors, found))))
        for k, row in enumerate(frame.bars)]


def elsewhere(frame, source):
    """The frame with its joints at other places, where its bars may meet."""
    spots = [(x, y) for x in range(-3, 4) for y in range(-3, 4)]
    places = source.sample(spots, len(frame.joints))
    held = [(name, source.choice(["fixed", point(1, 2)])) for name, _, _ in frame.joints[:2]]
    return Frame([(row[0], q(x), q(y)) for row, (x, y) in zip(frame.joints, places)], frame.bars, grounds=held)


def covered_frames(number, seed):
    """(frame, walks, own stress): flat frames, and frames whose bars meet, with a cover in any order."""
    source = random.Random(seed)
    for frame in flat_frames(number, seed):
        walks = faces(frame)
        if source.random() < 0.5:
            frame = elsewhere(frame, source)
        if source.random() < 0.5:
            walks = turned(walks, source)
        yield frame, walks, mixed_stress(frame, source)


class TestPicture(unittest.TestCase):
    def test_wheel(self):
        frame = wheel()
        stress = own_stresses(frame)[0]
        due = [point(0, 0), point(2, 0), point(4, -2), point(2, 2)]
        self.assertEqual(picture(frame, faces(frame), stress), due)
        # Another order of the walks, and another first one.
        walks = [["c", "b", "a"], ["a", "b", "d"], ["d", "b", "c"], ["a", "d", "c"]]
        self.assertEqual(picture(frame, walks, stress), [point(0, 0), point(-2, 0), point(2, -2), point(0, 2)])

    def test_no_stress(self):
        frame = Frame(joints(a=(0, 0), b=(1, 0), c=(5, 0)), bars("ab", "bc"))
        zeros = [("ab", q(0)), ("bc", q(0))]
        self.assertEqual(picture(frame, [["a", "b", "c", "b"]], zeros), [point(0, 0)])
        self.assertEqual(picture_pulls(frame, [["a", "b", "c", "b"]], [point(7, -1)]), zeros)
        self.assertIs(is_picture(frame, [["b", "a", "b", "c"]], [point(7, -1)]), True)
        self.assertEqual(force_polygon(frame, [["a", "b", "c", "b"]], [point(7, -1)], "b"), [point(7, -1)] * 2)
        self.assertEqual(force_polygon(frame, [["a", "b", "c", "b"]], [point(7, -1)], "c"), [point(7, -1)])
        frame = triangle()
        zeros = [(name, q(0)) for name in ("ab", "bc", "ca")]
        self.assertEqual(picture(frame, faces(frame), zeros), [point(0, 0)] * 2)

    def test_many(self):
        seen = moved = 0
        for frame, walks, stress in covered_frames(150, 81):
            found = picture(frame, walks, stress)
            self.assertEqual(len(found), len(walks))
            self.assertEqual(found[0], point(0, 0))
            spots = [numbers(spot) for spot in found]
            for (left, right), span, (_, pull) in zip(sides(frame, walks), spans(frame), stress):
                for k in (0, 1):
                    self.assertEqual(spots[left][k] - spots[right][k], fraction(pull) * span[k])
            self.assertEqual(picture_pulls(frame, walks, found), stress)
            self.assertIs(is_picture(frame, walks, found), True)
            shifted = [point(x + 5, y - 1) for x, y in spots]
            self.assertIs(is_picture(frame, walks, shifted), True)
            self.assertEqual(picture_pulls(frame, walks, shifted), stress)
            seen += any(pull != q(0) for _, pull in stress)
            moved += frame.grounds != []
        self.assertTrue(min(seen, moved) > 40, (seen, moved))

    def test_force_polygons(self):
        seen = 0
        for frame, walks, stress in covered_frames(60, 82):
            found = picture(frame, walks, stress)
            for name, _, _ in frame.joints:
                polygon = force_polygon(frame, walks, found, name)
                order = ring(frame, walks, name)
                self.assertEqual(polygon, [found[at] for at in order])
                # The bars in the order of the ring: from the first one at the joint, always the next around it.
                follows = {}
                for walk in walks:
                    for before, here, after in zip(walk, walk[1:] + walk[:1], walk[2:] + walk[:2]):
                        if here == name:
                            follows[before] = after
                first = frame.bars_at(name)[0]
                other = [end for end in frame.ends(first) if end != name][0]
                for k in range(len(polygon)):
                    bar = frame.bar_between(name, other)
                    alone = [(row, pull if row == bar else q(0)) for row, pull in stress]
                    x, y = pull_load(frame, alone).force(name)
                    one, next_one = numbers(polygon[k]), numbers(polygon[(k + 1) % len(polygon)])
                    self.assertEqual(point(one[0] - next_one[0], one[1] - next_one[1]), (x, y))
                    seen += (x, y) != point(0, 0)
                    other = follows[other]
        self.assertTrue(seen > 100, seen)

    def test_places_of_a_crossed_square(self):
        # A cover of a frame whose bars meet.
        frame = crossed_square()
        walks = [["a", "b", "c"], ["c", "b", "d"], ["d", "b", "a"], ["a", "c", "d"]]
        self.assertIs(is_cover(frame, walks), True)
        stress = own_stresses(frame)[0]
        found = picture(frame, walks, stress)
        self.assertEqual(picture_pulls(frame, walks, found), stress)
        self.assertEqual(found[0], point(0, 0))

    def test_is_picture(self):
        frame = wheel()
        walks = faces(frame)
        good = picture(frame, walks, own_stresses(frame)[0])
        self.assertIs(is_picture(frame, walks, good), True)
        self.assertIs(is_picture(frame, walks, [point(3, 3)] * 4), True)
        for value in [
            None, True, 4, "points", tuple(good), good[:3], good + good[:1], [], good[::-1], [good], {}, frame,
            [point(0, 0), point(2, 0), point(4, -2), point(2, 1)], [point(1, 0)] + good[1:],
            [list(spot) for spot in good],
            Load([]), [numbers(spot) for spot in good],
        ]:
            self.assertIs(is_picture(frame, walks, value), False)
        for value in NO_POINTS:
            self.assertIs(is_picture(frame, walks, [*good[:3], value]), False)
        for value in NO_RATIOS:
            self.assertIs(is_picture(frame, walks, [*good[:3], (q(2), value)]), False)

    def test_first_bar_that_does_not_fit(self):
        frame = wheel()
        walks = faces(frame)
        good = picture(frame, walks, own_stresses(frame)[0])
        for wrong, bar in [
            ([point(0, 1), *good[1:]], "ab"), ([good[0], good[1], point(9, 9), good[3]], "bc"),
            ([*good[:3], point(1, 1)], "ca"), ([*good[:3], point(9, 2)], "cd"), ([*good[:3], point(2, 3)], "ad"),
        ]:
            for call in (picture_pulls, lambda *args: force_polygon(*args, "a")):
                rows = zip(frame.bars, spans(frame), sides(frame, walks))
                found = [
                    name for (name, _, _, _), (x, y), (left, right) in rows
                    if x * (numbers(wrong[left])[1] - numbers(wrong[right])[1])
                    != y * (numbers(wrong[left])[0] - numbers(wrong[right])[0])]
                check_error(self, NotPicture, {"subject": found[0]}, call, frame, walks, wrong)

    def test_errors(self):
        frame = wheel()
        walks = faces(frame)
        stress = own_stresses(frame)[0]
        good = picture(frame, walks, stress)
        for value in NO_FRAMES:
            for call in (picture, is_picture, picture_pulls, reciprocal):
                check_error(self, WrongKind, {"argument": "frame"}, call, value, None, None)
            check_error(self, WrongKind, {"argument": "frame"}, force_polygon, value, None, None, None)
        for value in NO_WALKS:
            for call in (picture, is_picture, picture_pulls, reciprocal):
                check_error(self, WrongKind, {"argument": "walks"}, call, frame, value, None)
            check_error(self, WrongKind, {"argument": "walks"}, force_polygon, frame, value, None, None)
        for value in [None, stress[::-1], stress[:-1], tuple(stress), [], good, [*stress[:-1], ("cd", 1)]]:
            for call in (picture, reciprocal):
                check_error(self, WrongKind, {"argument": "pulls"}, call, frame, [[]] * 13, value)
        for value in [None, tuple(good), stress, "points", {}, *[[*good, one] for one in NO_POINTS]]:
            check_error(self, WrongKind, {"argument": "points"}, picture_pulls, frame, [], value)
            check_error(self, WrongKind, {"argument": "points"}, force_polygon, frame, [], value, None)
        for value in NO_NAMES:
            check_error(self, WrongKind, {"argument": "joint"}, force_polygon, frame, [], good, value)
        for points in ([], good[:3], good + good[:1]):
            check_error(self, OutOfBounds, {"argument": "points"}, picture_pulls, frame, walks, points)
            check_error(self, OutOfBounds, {"argument": "points"}, force_polygon, frame, walks, points, "x")
        check_error(self, UnknownName, {"unknown": "ab"}, force_polygon, frame, walks[::-1] * 1, good, "ab")
        check_error(self, UnknownName, {"unknown": "x"}, force_polygon, frame, [["a"]] * 4, good, "x")

    def test_late_errors(self):
        frame = wheel()
        walks = faces(frame)
        stress = own_stresses(frame)[0]
        good = picture(frame, walks, stress)
        wrong = [(name, q(1)) for name, _ in stress]
        for cover in (walks[:3], [], [[]], walks + [["a", "b"]], [["x", "y"]] * 4, [walk[::-1] for walk in walks][:3]):
            check_error(self, NotCover, {"subject": None}, picture, frame, cover, wrong)
            check_error(self, NotCover, {"subject": None}, reciprocal, frame, cover, wrong)
            check_error(self, NotCover, {"subject": None}, is_picture, frame, cover, None)
            points = [point(k, k * k) for k in range(len(cover))]
            check_error(self, NotCover, {"subject": None}, picture_pulls, frame, cover, points)
            check_error(self, NotCover, {"subject": None}, force_polygon, frame, cover, points, "a")
        check_error(self, NotOwnStress, {"subject": None}, picture, frame, walks, wrong)
        check_error(self, NotOwnStress, {"subject": None}, reciprocal, frame, walks, wrong)
        # All the walks turned round are a cover as well: seen from below.
        self.assertEqual(
            picture(frame, [walk[::-1] for walk in walks], stress),
            [point(-x, -y) for x, y in [numbers(spot) for spot in good]])
        empty = Frame([], [])
        check_error(self, NotCover, {"subject": None}, picture, empty, [], [])
        check_error(self, NotCover, {"subject": None}, is_picture, Frame(joints(a=(0, 0)), []), [], [])


class TestReciprocal(unittest.TestCase):
    def test_wheel(self):
        frame = wheel()
        walks = faces(frame)
        stress = own_stresses(frame)[0]
        other, other_walks = reciprocal(frame, walks, stress)
        self.assertEqual(other.joints, joints(f0=(0, 0), f1=(2, 0), f2=(4, -2), f3=(2, 2)))
        self.assertEqual(other.bars, [
            ("ab", "f1", "f0", "rod"), ("bc", "f1", "f2", "rod"), ("ca", "f1", "f3", "rod"), ("ad", "f0", "f3", "rod"),
            ("bd", "f2", "f0", "rod"), ("cd", "f3", "f2", "rod")])
        self.assertEqual(other.grounds, [])
        self.assertEqual(
            other_walks, [["f0", "f1", "f3"], ["f1", "f0", "f2"], ["f1", "f2", "f3"], ["f0", "f3", "f2"]])
        self.assertIs(reciprocal(frame, walks, stress).__class__, tuple)

    def test_there_and_back(self):
        seen = 0
        for frame, walks, stress in covered_frames(500, 84):
            pairs = [tuple(sorted(pair)) for pair in sides(frame, walks)]
            bad = [bar for k, (bar, pull) in enumerate(stress) if pull == q(0) or pairs[k] in pairs[:k]]
            if bad or len(walks) > 12:
                if len(walks) <= 12:
                    check_error(self, NoReciprocal, {"subject": bad[0]}, reciprocal, frame, walks, stress)
                continue
            seen += 1
            self.check_reciprocal(frame, walks, stress)
        self.assertTrue(seen > 20, seen)

    def check_reciprocal(self, frame, walks, stress):
        other, other_walks = reciprocal(frame, walks, stress)
        names = [f"f{k}" for k in range(len(walks))]
        self.assertEqual([row[0] for row in other.joints], names)
        self.assertEqual([other.place(name) for name in names], picture(frame, walks, stress))
        self.assertEqual(other.grounds, [])
        due = [(bar, names[right], names[left], "rod") for (bar, _), (left, right) in zip(stress, sides(frame, walks))]
        self.assertEqual(other.bars, due)
        self.assertEqual(
            other_walks, [[names[at] for at in ring(frame, walks, row[0])] for row in frame.joints])
        self.assertIs(is_cover(other, other_walks), True)
        back = [(bar, q(pull[1], pull[0])) for bar, pull in stress]
        self.assertIs(is_own_stress(other, back), True)
        again, again_walks = reciprocal(other, other_walks, back)
        places = list(places_of(frame).values())
        self.assertEqual(
            [(fraction(x), fraction(y)) for _, x, y in again.joints],
            [(x - places[0][0], y - places[0][1]) for x, y in places])
        index = {row[0]: k for k, row in enumerate(frame.joints)}
        self.assertEqual(again.bars, [(row[0], f"f{index[row[1]]}", f"f{index[row[2]]}", "rod") for row in frame.bars])
        if is_flat(frame) and walks == faces(frame):
            self.assertEqual(again_walks, [[f"f{index[name]}" for name in walk] for walk in walks])

    def test_errors(self):
        frame = wheel()
        walks = faces(frame)
        zeros = [(row[0], q(0)) for row in frame.bars]
        check_error(self, NoReciprocal, {"subject": "ab"}, reciprocal, frame, walks, zeros)
        check_error(self, OutOfBounds, {"argument": "walks"}, reciprocal, frame, [[]] * 13, zeros)
        ones = [(row[0], q(1)) for row in frame.bars]
        check_error(self, OutOfBounds, {"argument": "walks"}, reciprocal, frame, walks * 4, ones)
        check_error(self, NotCover, {"subject": None}, reciprocal, frame, walks * 3, zeros)
        # A joint in the middle of a bar: both halves lie between the same two faces.
        split = Frame(joints(a=(0, 0), b=(6, 0), c=(0, 6), d=(2, 2), e=(3, 0)),
                      bars("ae", "bc", "ca", "ad", "bd", "cd", "eb"))
        stress = own_stresses(split)[0]
        self.assertTrue(all(pull != q(0) for _, pull in stress))
        check_error(self, NoReciprocal, {"subject": "eb"}, reciprocal, split, faces(split), stress)
        loose = Frame(wheel().joints + joints(e=(3, 2)), bars("de") + wheel().bars)
        stress = own_stresses(loose)[0]
        check_error(self, NoReciprocal, {"subject": "de"}, reciprocal, loose, faces(loose), stress)
        last = Frame(loose.joints, loose.bars[1:] + loose.bars[:1])
        check_error(self, NoReciprocal, {"subject": "de"}, reciprocal, last, faces(last), own_stresses(last)[0])

    def test_fan(self):
        # Six triangles around one joint.
        spots = dict(zip("abcdefg", [(0, 0), (40, 0), (20, 3), (0, 9), (-20, 4), (-40, 0), (0, -9)]))
        frame = Frame(joints(**spots), bars("ab", "ac", "ad", "ae", "af", "ag", "bc", "cd", "de", "ef", "fg", "gb"))
        walks = faces(frame)
        self.assertEqual(len(walks), 7)
        self.check_reciprocal(frame, walks, own_stresses(frame)[0])

    def test_most_walks(self):
        # A wheel with eleven spokes has twelve joints and twelve faces.
        rim = [(9, 0), (8, 5), (5, 9), (0, 7), (-4, 8), (-9, 6), (-7, 0), (-8, -5), (-3, -9), (2, -6), (8, -7)]
        names = [f"r{k}" for k in range(11)]
        places = joints(m=(0, 0), **dict(zip(names, rim)))
        lines = [(f"s{k}", "m", name, "rod") for k, name in enumerate(names)]
        lines += [(f"t{k}", name, names[(k + 1) % 11], "rod") for k, name in enumerate(names)]
        frame = Frame(places, lines)
        walks = faces(frame)
        self.assertEqual(len(walks), 12)
        self.check_reciprocal(frame, walks, own_stresses(frame)[0])


class TestCopies(unittest.TestCase):
    def test_fresh(self):
        frame = wheel()
        walks = faces(frame)
        stress = own_stresses(frame)[0]
        check_fresh(self, lambda: picture(frame, walks, stress))
        check_fresh(self, lambda: picture_pulls(frame, walks, [point(1, 1)] * 4))
        check_fresh(self, lambda: force_polygon(frame, walks, [point(1, 1)] * 4, "a"))
        check_fresh(self, lambda: reciprocal(frame, walks, stress)[1])
        self.assertEqual(reciprocal(frame, walks, stress), reciprocal(bare(frame), walks, stress))

    def test_arguments_stay(self):
        frame = wheel()
        walks = faces(frame)
        stress = own_stresses(frame)[0]
        points = picture(frame, walks, stress)
        before = copy.deepcopy([walks, stress, points])
        picture_pulls(frame, walks, points)
        force_polygon(frame, walks, points, "d")
        is_picture(frame, walks, points)
        reciprocal(frame, walks, stress)
        self.assertEqual(before, [walks, stress, points])
        self.assertEqual(frame, wheel())
