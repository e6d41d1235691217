import itertools
import random
import unittest

from helpers import (
    HUGE, NO_FRAMES, NO_NAME_LISTS, NO_NAMES, bars, check_error, check_fresh, crossed_square, joints, point, q,
    triangle,
    wheel,
)
from reference import some_frames
from standframes.changes import bare
from standframes.counts import (
    counted_freedom, crowd, inner_bars, is_crowded, kept_bars, missing_pairs, room, sparse, stiff_parts, tight,
)
from standframes.errors import OutOfBounds, RepeatedName, UnknownName, WrongKind
from standframes.frames import Frame
from standframes.motions import freedom


def names_of(frame):
    return [row[0] for row in frame.joints]


def groups(names, least=2):
    return [frozenset(group) for size in range(least, len(names) + 1) for group in itertools.combinations(names, size)]


def inside(group, pairs):
    return [pair for pair in pairs if pair[0] in group and pair[1] in group]


def is_sparse_set(names, pairs):
    """By the words of point 23."""
    return all(len(inside(group, pairs)) <= 2 * len(group) - 3 for group in groups(names))


def slow_kept(frame):
    kept = []
    for bar, one, other, _ in frame.bars:
        if is_sparse_set(names_of(frame), [row[1:3] for row in kept] + [(one, other)]):
            kept.append((bar, one, other))
    return kept


def frames(number, seed, least=0):
    """Frames with many bars, at any places."""
    source = random.Random(seed)
    for _ in range(number):
        names = source.sample("abcdefgh", source.randint(least, 6))
        places = [(name, q(k), q(source.randint(0, 3))) for k, name in enumerate(names)]
        pairs = list(itertools.combinations(names, 2))
        pairs = source.sample(pairs, source.randint(len(pairs) // 3, len(pairs)))
        lines = [(f"b{k}", *source.sample(pair, 2), source.choice(["rod", "tie", "prop"]))
                 for k, pair in enumerate(pairs)]
        held = [(name, source.choice(["fixed", point(1, 2)])) for name in names if source.random() < 0.3]
        yield Frame(places, lines, grounds=held)


def two_triangles():
    """Two triangles with one common joint, and a bar of its own."""
    places = joints(a=(0, 0), b=(1, 0), c=(0, 1), d=(-1, 0), e=(0, -1), f=(5, 5))
    return Frame(places, bars("ef", "ab", "ad", "bc", "de", "ca", "ea"))


class TestRoom(unittest.TestCase):
    def test_room(self):
        self.assertEqual([room(size) for size in range(6)], [0, 0, 1, 3, 5, 7])
        self.assertEqual(room(HUGE), 2 * HUGE - 3)
        self.assertEqual(room(12), 21)

    def test_errors(self):
        for value in [None, True, False, "2", (2, 1), [2], {}, triangle()]:
            check_error(self, WrongKind, {"argument": "size"}, room, value)
        for value in (-1, -2, -HUGE):
            check_error(self, OutOfBounds, {"argument": "size"}, room, value)


class TestInnerBars(unittest.TestCase):
    def test_small(self):
        frame = crossed_square()
        self.assertEqual(inner_bars(frame, ["c", "a", "d"]), ["cd", "da", "ac"])
        self.assertEqual(inner_bars(frame, ["d", "c", "b", "a"]), [row[0] for row in frame.bars])
        self.assertEqual(inner_bars(frame, ["b", "d"]), ["bd"])
        self.assertEqual(inner_bars(frame, ["b"]), [])
        self.assertEqual(inner_bars(frame, []), [])
        self.assertEqual(inner_bars(Frame([], []), []), [])

    def test_errors(self):
        frame = triangle()
        for value in NO_NAME_LISTS:
            check_error(self, WrongKind, {"argument": "joints"}, inner_bars, frame, value)
        check_error(self, WrongKind, {"argument": "joints"}, inner_bars, frame, ["x", "x", ""])
        check_error(self, RepeatedName, {"repeated": "x"}, inner_bars, frame, ["y", "x", "x", "y"])
        check_error(self, UnknownName, {"unknown": "y"}, inner_bars, frame, ["a", "y", "x"])


class TestKept(unittest.TestCase):
    def test_small(self):
        frame = crossed_square()
        self.assertEqual(kept_bars(frame), ["ab", "bc", "cd", "da", "ac"])
        self.assertEqual(kept_bars(Frame(frame.joints, frame.bars[::-1])), ["bd", "ac", "da", "cd", "bc"])
        self.assertEqual((counted_freedom(frame), sparse(frame), tight(frame)), (3, False, False))
        self.assertEqual((counted_freedom(triangle()), sparse(triangle()), tight(triangle())), (3, True, True))
        frame = two_triangles()
        self.assertEqual(kept_bars(frame), [row[0] for row in frame.bars])
        self.assertEqual((counted_freedom(frame), sparse(frame), tight(frame)), (5, True, False))

    def test_edges(self):
        empty, alone = Frame([], []), Frame(joints(a=(0, 0)), [])
        pair = Frame(joints(a=(0, 0), b=(0, 1)), bars("ab"))
        for frame, told in [(empty, (0, True, False)), (alone, (2, True, False)), (pair, (3, True, True)),
                            (Frame(pair.joints, []), (4, True, False))]:
            self.assertEqual((counted_freedom(frame), sparse(frame), tight(frame)), told)
            self.assertEqual(kept_bars(frame), [row[0] for row in frame.bars])

    def test_enough_bars_in_the_wrong_places(self):
        # Four joints full of bars, and one joint that hangs on one bar.
        frame = Frame(joints(a=(0, 0), b=(1, 0), c=(1, 1), d=(0, 1), e=(9, 9)),
                      bars("ab", "bc", "cd", "da", "ac", "bd", "de"))
        self.assertEqual(len(frame.bars), room(5))
        self.assertIs(tight(frame), False)
        self.assertIs(sparse(frame), False)
        self.assertEqual(counted_freedom(frame), 4)

    def test_many(self):
        words = {(True, True): 0, (True, False): 0, (False, False): 0}
        for frame in frames(150, 61):
            kept = slow_kept(frame)
            self.assertEqual(kept_bars(frame), [row[0] for row in kept])
            self.assertEqual(counted_freedom(frame), 2 * len(frame.joints) - len(kept))
            free = len(kept) == len(frame.bars)
            self.assertIs(sparse(frame), free)
            full = free and len(frame.joints) >= 2 and len(frame.bars) == 2 * len(frame.joints) - 3
            self.assertIs(tight(frame), full)
            words[free, full] += 1
            self.assertGreaterEqual(freedom(bare(frame)), counted_freedom(frame))
        self.assertTrue(min(words.values()) > 10, words)

    def test_places_grounds_and_roles_have_no_effect(self):
        for frame in frames(20, 62):
            other = Frame([(name, q(k), q(0)) for k, (name, _, _) in enumerate(frame.joints)],
                          [(*row[:3], "rod") for row in frame.bars])
            for call in (kept_bars, counted_freedom, sparse, tight, stiff_parts, missing_pairs):
                self.assertEqual(call(frame), call(other))
            for row in frame.bars:
                self.assertEqual(crowd(frame, row[0]), crowd(other, row[0]))

    def test_largest(self):
        names = "abcdefghijkl"
        pairs = list(itertools.combinations(names, 2))
        random.Random(3).shuffle(pairs)
        frame = Frame([(name, q(k), q(0)) for k, name in enumerate(names)],
                      [(f"b{k}", *pair, "rod") for k, pair in enumerate(pairs[:30])])
        kept = kept_bars(frame)
        self.assertEqual(len(kept) + len(missing_pairs(frame)), 21)
        self.assertEqual(counted_freedom(frame), 24 - len(kept))

    def test_errors(self):
        for value in NO_FRAMES:
            for call in (kept_bars, counted_freedom, sparse, tight, stiff_parts, missing_pairs):
                check_error(self, WrongKind, {"argument": "frame"}, call, value)
            for call in (inner_bars, crowd, is_crowded):
                check_error(self, WrongKind, {"argument": "frame"}, call, value, None)


class TestCrowd(unittest.TestCase):
    def test_small(self):
        frame = crossed_square()
        self.assertEqual(crowd(frame, "bd"), ["a", "b", "c", "d"])
        for bar in ("ab", "bc", "cd", "da", "ac"):
            self.assertIsNone(crowd(frame, bar))
        # The two triangles together, with a bar across that closes them and one too many.
        frame = Frame(two_triangles().joints, two_triangles().bars + bars("bd", "ce", "cd"))
        self.assertIsNone(crowd(frame, "bd"))
        self.assertEqual(crowd(frame, "ce"), ["a", "b", "c", "d", "e"])
        self.assertEqual(crowd(frame, "cd"), ["a", "b", "c", "d"])

    def test_many(self):
        seen = 0
        for frame in frames(120, 63, least=4):
            names = names_of(frame)
            kept = slow_kept(frame)
            for at, (bar, one, other, _) in enumerate(frame.bars):
                found = crowd(frame, bar)
                if bar in [row[0] for row in kept]:
                    self.assertIsNone(found)
                    continue
                seen += 1
                before = [row[1:] for row in kept if row[0] in [line[0] for line in frame.bars[:at]]]
                full = [group for group in groups(names)
                        if {one, other} <= group and len(inside(group, before)) == 2 * len(group) - 3]
                least = min(len(group) for group in full)
                due, = [group for group in full if len(group) == least]
                self.assertEqual(found, [name for name in names if name in due])
                self.assertIs(is_crowded(frame, found), True)
        self.assertTrue(seen > 100, seen)

    def test_errors(self):
        frame = crossed_square()
        for value in NO_NAMES:
            check_error(self, WrongKind, {"argument": "bar"}, crowd, frame, value)
        check_error(self, UnknownName, {"unknown": "db"}, crowd, frame, "db")
        check_error(self, UnknownName, {"unknown": "a"}, crowd, frame, "a")

    def test_is_crowded(self):
        frame = Frame(two_triangles().joints, two_triangles().bars + bars("bd", "ce", "cd"))
        for group in ("abcde", "edcba", "abcd"):
            self.assertIs(is_crowded(frame, list(group)), True)
        for value in [
            None, True, 1, "abcd", tuple("abcd"), {}, [], ["a"], ["a", "b"], list("abc"), list("abce"), list("abcdf"),
            list("abcda"), list("abcdx"), list("abcdd"), [["a", "b", "c", "d"]], ["a", "b", "c", None], frame,
            ["a", "b", "c", ["d"]], ["a", "b", "c", ("d",)], dict(a=1, b=2, c=3, d=4), ["ab", "ad", "bd"],
            ["a", "b", "c", frame],
        ]:
            self.assertIs(is_crowded(frame, value), False)
        names = "abcde"
        full = Frame([(name, q(k), q(k)) for k, name in enumerate(names)],
                     [(one + other, one, other, "rod") for one, other in itertools.combinations(names, 2)])
        self.assertIs(is_crowded(full, list("abcde")), True)
        for value in (list("abcdee"), list("aabcde"), list("abcdex"), ["x", *"abcde"], ["ab", *"abcde"]):
            self.assertIs(is_crowded(full, value), False)
        for frame in frames(40, 64):
            pairs = [row[1:3] for row in frame.bars]
            for group in groups(names_of(frame), least=0):
                due = len(group) >= 2 and len(inside(group, pairs)) > 2 * len(group) - 3
                self.assertIs(is_crowded(frame, sorted(group)), due)


class TestParts(unittest.TestCase):
    def test_small(self):
        frame = two_triangles()
        self.assertEqual(stiff_parts(frame), [["e", "f"], ["a", "b", "c"], ["a", "d", "e"]])
        frame = Frame(frame.joints, bars("fb") + frame.bars[:0:-1])
        self.assertEqual(stiff_parts(frame), [["b", "f"], ["a", "d", "e"], ["a", "b", "c"]])
        self.assertEqual(stiff_parts(crossed_square()), [["a", "b", "c", "d"]])
        self.assertEqual(stiff_parts(wheel()), [["a", "b", "c", "d"]])
        self.assertEqual(stiff_parts(Frame([], [])), [])
        self.assertEqual(stiff_parts(Frame(joints(a=(0, 0), b=(1, 1)), [])), [])
        square = crossed_square()
        self.assertEqual(stiff_parts(Frame(square.joints, square.bars[:4])),
                         [["a", "b"], ["b", "c"], ["c", "d"], ["a", "d"]])

    def test_many(self):
        several = 0
        for frame in frames(120, 65):
            names = names_of(frame)
            kept = [row[1:] for row in slow_kept(frame)]
            full = [group for group in groups(names) if len(inside(group, kept)) == 2 * len(group) - 3]
            parts = [group for group in full if not any(group < more for more in full)]
            due = []
            for _, one, other, _ in frame.bars:
                part, = [group for group in parts if {one, other} <= group]
                if part not in due:
                    due.append(part)
            self.assertEqual(sorted(map(sorted, due)), sorted(map(sorted, parts)))
            self.assertEqual(stiff_parts(frame), [[name for name in names if name in part] for part in due])
            several += len(due) > 1
        self.assertTrue(several > 20, several)

    def test_missing_pairs(self):
        self.assertEqual(missing_pairs(two_triangles()), [("a", "f"), ("b", "d")])
        self.assertEqual(missing_pairs(crossed_square()), [])
        self.assertEqual(missing_pairs(Frame([], [])), [])
        self.assertEqual(missing_pairs(Frame(joints(a=(0, 0)), [])), [])
        frame = Frame(joints(c=(0, 0), a=(0, 0), b=(1, 1)), [])
        self.assertEqual(missing_pairs(frame), [("c", "a"), ("c", "b"), ("a", "b")])
        # A pair that a bar joins already, in either direction, is not missing.
        frame = Frame(joints(c=(0, 0), a=(1, 0), b=(1, 1)), bars("ac", "ba"))
        self.assertEqual(missing_pairs(frame), [("c", "b")])

    def test_missing_many(self):
        for frame in [*frames(60, 66), *[frame for frame, _ in some_frames(40, 67)]]:
            names = names_of(frame)
            pairs = [row[1:] for row in slow_kept(frame)]
            due = []
            for pair in itertools.combinations(names, 2):
                if is_sparse_set(names, pairs + due + [pair]):
                    due.append(pair)
            self.assertEqual(missing_pairs(frame), due)


class TestCopies(unittest.TestCase):
    def test_fresh(self):
        frame = Frame(two_triangles().joints, two_triangles().bars + bars("bd", "ce"))
        for call in (kept_bars, stiff_parts, missing_pairs):
            check_fresh(self, lambda: call(frame))
        check_fresh(self, lambda: stiff_parts(two_triangles()))
        check_fresh(self, lambda: crowd(frame, "ce"))
        check_fresh(self, lambda: inner_bars(frame, ["a", "b", "c"]))

    def test_arguments_stay(self):
        frame = two_triangles()
        group = ["b", "a", "c"]
        inner_bars(frame, group)
        is_crowded(frame, group)
        stiff_parts(frame)
        self.assertEqual(group, ["b", "a", "c"])
        self.assertEqual(frame, two_triangles())
