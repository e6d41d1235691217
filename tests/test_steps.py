import copy
import itertools
import random
import unittest

from helpers import (
    NO_FRAMES, NO_NAMES, bars, check_error, check_fresh, crossed_square, fraction, joints, point, q, triangle, wheel,
)
from reference import check_forces
from standframes.changes import bare
from standframes.counts import counted_freedom, crowd, is_crowded, kept_bars, tight
from standframes.errors import BadSteps, OutOfBounds, UnknownName, WrongKind
from standframes.forces import is_own_stress
from standframes.frames import Frame
from standframes.loads import Load
from standframes.motions import freedom
from standframes.steps import built_pairs, crowd_stress, is_building, is_spread, spread, take_down
from test_counts import frames, inside, two_triangles

TRIANGLE = [("start", "a", "b"), ("add", "c", "b", "a")]
NO_STEPS = [
    None, True, 5, "start", ["start", "a", "b"], (), ("start",), ("start", "a"), ("start", "a", "b", "c"),
    ("add", "a", "b"),
    ("add", "a", "b", "c", "d"), ("split", "a", "b", "c"), ("split", "a", "b", "c", "d", "e"), ("Start", "a", "b"),
    ("a", "b"), ("", "a", "b"), (None, "a", "b"), (["start"], "a", "b"), ({}, "a", "b"), (0, "a", "b"),
    ("start", "a", "b", None), ("start", ("a", "b")), {"start": 1}, [], ("a", "start", "b"), ("take", "a", "b", "c"),
    *[("start", "a", value) for value in NO_NAMES], *[("add", value, "b", "a") for value in NO_NAMES],
    *[("split", "d", "a", value, "c") for value in NO_NAMES],
]


def frame_of(names, pairs, at_one_line=False):
    places = [(name, q(k), q(0 if at_one_line else k * k)) for k, name in enumerate(names)]
    return Frame(places, [(f"b{k}", *pair, "rod") for k, pair in enumerate(pairs)])


def slow_built(steps):
    """The joints and the pairs after the steps, or the index of the first that cannot be done."""
    held, linked = set(), set()
    for at, (word, *names) in enumerate(steps):
        if word == "start":
            if at > 0 or names[0] == names[1]:
                return at
            held = set(names)
            linked = {frozenset(names)}
            continue
        joint, *others = names
        if joint in held or not set(others) <= held or len(set(others)) < len(others):
            return at
        if word == "split":
            if frozenset(others[:2]) not in linked:
                return at
            linked.discard(frozenset(others[:2]))
        held.add(joint)
        linked |= {frozenset((joint, other)) for other in others}
    return (held, linked) if steps else 0


def some_steps(number, seed, most=11):
    """Lists of steps, most of which can be done."""
    source = random.Random(seed)
    for _ in range(number):
        names = source.sample("abcdefghijklmnop", 12)
        steps = [("start", *names[:2])]
        held = names[:2]
        linked = {frozenset(held)}
        for joint in names[2:2 + source.randint(0, most - 1)]:
            if len(held) > 2 and source.random() < 0.6:
                pair = sorted(source.choice(sorted(map(sorted, linked))), key=lambda _: source.random())
                third = source.choice([name for name in held if name not in pair])
                steps.append(("split", joint, *pair, third))
                linked.discard(frozenset(pair))
                ends = [*pair, third]
            else:
                ends = source.sample(held, 2)
                steps.append(("add", joint, *ends))
            held = [*held, joint]
            linked |= {frozenset((joint, end)) for end in ends}
        yield steps


class TestBuiltPairs(unittest.TestCase):
    def test_small(self):
        self.assertEqual(built_pairs([("start", "b", "a")]), [("a", "b")])
        self.assertEqual(built_pairs(TRIANGLE), [("a", "b"), ("a", "c"), ("b", "c")])
        steps = [*TRIANGLE, ("split", "d", "b", "a", "c")]
        self.assertEqual(built_pairs(steps), [("a", "c"), ("a", "d"), ("b", "c"), ("b", "d"), ("c", "d")])
        steps = [*TRIANGLE, ("split", "d", "a", "c", "b"), ("add", "b2", "d", "a"), ("add", "b10", "b2", "b")]
        self.assertEqual(built_pairs(steps), [
            ("a", "b"), ("a", "b2"), ("a", "d"), ("b", "b10"), ("b", "c"), ("b", "d"), ("b10", "b2"), ("b2", "d"),
            ("c", "d")])

    def test_steps_that_cannot_be_done(self):
        split = ("split", "d", "a", "b", "c")
        for index, steps in [
            (0, []), (0, [("add", "c", "a", "b")]), (0, [("split", "d", "a", "b", "c")]), (0, [("start", "a", "a")]),
            (0, TRIANGLE[::-1]), (1, [TRIANGLE[0], TRIANGLE[0]]), (1, [TRIANGLE[0], ("start", "c", "d")]),
            (2, [*TRIANGLE, ("start", "d", "e")]), (1, [TRIANGLE[0], ("add", "a", "a", "b")]),
            (1, [TRIANGLE[0], ("add", "b", "a", "b")]), (2, [*TRIANGLE, ("add", "b", "a", "c")]),
            (1, [TRIANGLE[0], ("add", "c", "a", "a")]), (1, [TRIANGLE[0], ("add", "c", "a", "c")]),
            (1, [TRIANGLE[0], ("add", "c", "c", "b")]), (1, [TRIANGLE[0], ("add", "c", "a", "d")]),
            (1, [TRIANGLE[0], ("split", "c", "a", "b", "a")]), (1, [TRIANGLE[0], ("split", "c", "a", "b", "d")]),
            (2, [*TRIANGLE, ("split", "c", "a", "b", "c")]), (2, [*TRIANGLE, ("split", "a", "c", "b", "a")]),
            (2, [*TRIANGLE, ("split", "d", "a", "b", "a")]), (2, [*TRIANGLE, ("split", "d", "a", "b", "b")]),
            (2, [*TRIANGLE, ("split", "d", "a", "a", "b")]), (2, [*TRIANGLE, ("split", "d", "a", "b", "d")]),
            (2, [*TRIANGLE, ("split", "d", "a", "e", "b")]), (2, [*TRIANGLE, ("split", "d", "e", "a", "b")]),
            (3, [*TRIANGLE, split, ("split", "e", "b", "a", "c")]), (3, [*TRIANGLE, split, split]),
            (3, [*TRIANGLE, split, ("add", "d", "a", "b")]), (2, [*TRIANGLE, ("start", "a", "b"), split]),
            (3, [*TRIANGLE, ("add", "d", "a", "b"), ("split", "e", "c", "d", "a")]),
        ]:
            check_error(self, BadSteps, {"subject": index}, built_pairs, steps)
            self.assertEqual(slow_built(steps), index)

    def test_many(self):
        source = random.Random(71)
        bad = 0
        for steps in some_steps(300, 72):
            due = slow_built(steps)
            self.assertEqual(built_pairs(steps), sorted(tuple(sorted(pair)) for pair in due[1]))
            # The same with one name exchanged, or with two steps exchanged.
            wrong = [list(step) for step in steps]
            step = source.choice(wrong)
            step[source.randrange(1, len(step))] = source.choice("abcdefghijklmnop")
            if source.random() < 0.3:
                wrong = source.sample(wrong, len(wrong))
            wrong = [tuple(step) for step in wrong]
            due = slow_built(wrong)
            if isinstance(due, int):
                bad += 1
                check_error(self, BadSteps, {"subject": due}, built_pairs, wrong)
            else:
                self.assertEqual(built_pairs(wrong), sorted(tuple(sorted(pair)) for pair in due[1]))
        self.assertTrue(100 < bad < 290, bad)

    def test_bound(self):
        names = "abcdefghijklm"
        steps = [("start", "a", "b")] + [("add", name, "a", "b") for name in names[2:]]
        self.assertEqual(len(built_pairs(steps[:11])), 21)
        check_error(self, OutOfBounds, {"argument": "steps"}, built_pairs, steps[:12])
        check_error(self, OutOfBounds, {"argument": "steps"}, built_pairs, [steps[1]] * 12)
        check_error(self, WrongKind, {"argument": "steps"}, built_pairs, [*steps, None])

    def test_wrong_kinds(self):
        for value in [None, 1, "start", tuple(TRIANGLE), {}, triangle(), TRIANGLE[0]]:
            check_error(self, WrongKind, {"argument": "steps"}, built_pairs, value)
        for value in NO_STEPS:
            check_error(self, WrongKind, {"argument": "steps"}, built_pairs, [value])
            check_error(self, WrongKind, {"argument": "steps"}, built_pairs, [("add", "a", "b", "c"), value])


class TestIsBuilding(unittest.TestCase):
    def test_right_and_wrong(self):
        frame = crossed_square()
        frame = Frame(frame.joints, frame.bars[:5])
        good = [("start", "a", "c"), ("add", "b", "a", "c"), ("add", "d", "c", "a")]
        split = [("start", "d", "b"), ("add", "a", "b", "d"), ("split", "c", "d", "b", "a")]
        other = [("start", "b", "c"), ("add", "a", "c", "b"), good[2]]
        for steps in (good, split, [("start", "c", "a"), *good[:0:-1]], other):
            self.assertIs(is_building(frame, steps), True)
        for value in [
            None, True, [], (), tuple(good), good[:2], good[1:], good[::-1], [list(step) for step in good], frame,
            [good],
            {}, "start", good[:2] + [("add", "d", "c", "b")], good[:2] + [("add", "e", "c", "a")], good[:2] * 2,
            [*good, ("add", "e", "a", "b")], [*good, None], split[:2] + [("split", "c", "d", "a", "b")],
            [("start", "a", "c", "b"), *good[1:]], [*good, good[2]], good * 5, [*good[:2], ("add", "d", "c", "a", "b")],
        ]:
            self.assertIs(is_building(frame, value), False)
        for value in NO_STEPS:
            self.assertIs(is_building(frame, [*good[:2], value]), False)

    def test_edges(self):
        self.assertIs(is_building(Frame([], []), []), False)
        self.assertIs(is_building(Frame(joints(a=(0, 0)), []), []), False)
        pair = Frame(joints(a=(0, 0), b=(0, 1)), bars("ba"))
        self.assertIs(is_building(pair, [("start", "a", "b")]), True)
        self.assertIs(is_building(pair, [("start", "b", "a")]), True)
        self.assertIs(is_building(Frame(pair.joints, []), [("start", "a", "b")]), False)
        self.assertIs(is_building(triangle(), TRIANGLE), True)
        # Joints that the steps do not set.
        more = Frame(triangle().joints + joints(d=(9, 9)), triangle().bars)
        self.assertIs(is_building(more, TRIANGLE), False)

    def test_many(self):
        for steps in some_steps(60, 73):
            held, linked = slow_built(steps)
            pairs = [tuple(pair) for pair in sorted(map(sorted, linked))]
            frame = frame_of(sorted(held), pairs, at_one_line=True)
            self.assertIs(is_building(frame, steps), True)
            self.assertIs(is_building(frame_of(sorted(held), pairs[1:]), steps), False)
            self.assertIs(is_building(frame, steps[:-1]), False)


class TestTakeDown(unittest.TestCase):
    def test_small(self):
        self.assertIsNone(take_down(Frame([], [])))
        self.assertIsNone(take_down(Frame(joints(a=(0, 0)), [])))
        self.assertIsNone(take_down(Frame(joints(a=(0, 0), b=(0, 1)), [])))
        self.assertIsNone(take_down(crossed_square()))
        self.assertIsNone(take_down(two_triangles()))
        pair = Frame(joints(a=(0, 0), b=(0, 1)), bars("ba"))
        self.assertIs(is_building(pair, take_down(pair)), True)
        # Each joint has three bars: no building without splits.
        names = "abcdef"
        prism = frame_of(names, ["ab", "bc", "ca", "de", "ef", "fd", "ad", "be", "cf"])
        steps = take_down(prism)
        self.assertIs(is_building(prism, steps), True)
        self.assertIn("split", [step[0] for step in steps])
        bipartite = frame_of(names, ["ad", "ae", "af", "bd", "be", "bf", "cd", "ce", "cf"], at_one_line=True)
        self.assertIs(is_building(bipartite, take_down(bipartite)), True)

    def test_every_small_frame(self):
        for names, size in (("abc", 3), ("abcd", 5), ("abcde", 7)):
            for pairs in itertools.combinations(itertools.combinations(names, 2), size):
                frame = frame_of(names, pairs)
                steps = take_down(frame)
                self.assertIs(steps is not None, tight(frame))
                if steps is not None:
                    self.check_steps(frame, steps)

    def check_steps(self, frame, steps):
        self.assertIs(is_building(frame, steps), True)
        held, linked = slow_built(steps)
        self.assertEqual(sorted(held), sorted(row[0] for row in frame.joints))
        self.assertEqual(linked, {frozenset(row[1:3]) for row in frame.bars})

    def test_many(self):
        source = random.Random(74)
        for steps in some_steps(80, 75):
            held, linked = slow_built(steps)
            pairs = [source.sample(sorted(pair), 2) for pair in sorted(map(sorted, linked))]
            frame = frame_of(source.sample(sorted(held), len(held)), source.sample(pairs, len(pairs)), at_one_line=True)
            self.check_steps(frame, take_down(frame))
        for frame in frames(100, 76):
            self.assertIs(take_down(frame) is None, not tight(frame))

    def test_errors(self):
        for value in NO_FRAMES:
            for call in (take_down, spread):
                check_error(self, WrongKind, {"argument": "frame"}, call, value)
            for call in (is_building, crowd_stress, is_spread):
                check_error(self, WrongKind, {"argument": "frame"}, call, value, None)


class TestCrowdStress(unittest.TestCase):
    def test_small(self):
        frame = crossed_square()
        for bar in ("ab", "bc", "cd", "da", "ac"):
            self.assertIsNone(crowd_stress(frame, bar))
        found = crowd_stress(frame, "bd")
        self.assertIs(is_own_stress(frame, found), True)
        self.assertEqual([fraction(pull) / fraction(found[5][1]) for _, pull in found], [-1, -1, -1, -1, 1, 1])
        # Outside of the crowd, and in bars that come later, there is nothing.
        frame = Frame(frame.joints + joints(e=(4, 1)), bars("ce", "be") + frame.bars + bars("de", "ae"))
        found = dict(crowd_stress(frame, "bd"))
        self.assertEqual([name for name, pull in found.items() if pull == q(0)], ["ce", "be", "de", "ae"])

    def test_bar_that_is_zero_itself(self):
        # The three joints on one line have a stress of their own before the last bar comes.
        frame = Frame(joints(a=(0, 0), b=(1, 0), c=(2, 0), d=(0, 5)), bars("ab", "bc", "ac", "ad", "bd", "cd"))
        self.assertEqual(crowd(frame, "cd"), ["a", "b", "c", "d"])
        found = crowd_stress(frame, "cd")
        self.assertIs(is_own_stress(frame, found), True)
        self.assertTrue(any(pull != q(0) for _, pull in found))

    def test_many(self):
        seen = 0
        for frame in frames(150, 77, least=4):
            kept = kept_bars(frame)
            for at, row in enumerate(frame.bars):
                found = crowd_stress(frame, row[0])
                if row[0] in kept:
                    self.assertIsNone(found)
                    continue
                seen += 1
                check_forces(self, bare(frame), Load([]), found, [])
                group = crowd(frame, row[0])
                inner = [line[:3] for line in frame.bars[:at] if line[0] in kept and inside(group, [line[1:3]])]
                allowed = {row[0], *[line[0] for line in inner]}
                used = {name for name, pull in found if pull != q(0)}
                self.assertTrue(used and used <= allowed)
        self.assertTrue(seen > 50, seen)

    def test_grounds_have_no_effect(self):
        held = crossed_square(grounds=[(name, "fixed") for name in "abcd"])
        self.assertEqual(crowd_stress(held, "bd"), crowd_stress(crossed_square(), "bd"))

    def test_errors(self):
        for value in NO_NAMES:
            check_error(self, WrongKind, {"argument": "bar"}, crowd_stress, wheel(), value)
        check_error(self, UnknownName, {"unknown": "da"}, crowd_stress, wheel(), "da")


class TestSpread(unittest.TestCase):
    def check_spread(self, frame):
        other = spread(frame)
        self.assertEqual([row[0] for row in other.joints], [row[0] for row in frame.joints])
        self.assertEqual((other.bars, other.grounds), (frame.bars, frame.grounds))
        self.assertEqual(freedom(bare(other)), counted_freedom(frame))
        self.assertIs(is_spread(frame, other), True)
        self.assertEqual(spread(frame), other)
        self.assertIs(is_spread(frame, frame), freedom(bare(frame)) == counted_freedom(frame))

    def test_many(self):
        for frame in frames(120, 78):
            self.check_spread(frame)

    def test_special_places(self):
        places = joints(a=(0, 0), b=(1, 0), c=(2, 0), d=(3, 0))
        grounds = [("c", point(1, 1)), ("a", "fixed")]
        line = Frame(places, [(*row[:3], "tie") for row in bars("ab", "bc", "ca", "cd", "ad")], grounds=grounds)
        self.assertIs(is_spread(line, line), False)
        self.check_spread(line)
        # A tight frame of six joints whose bars between two triangles are parallel: it moves.
        prism = Frame(joints(a=(0, 0), b=(2, 0), c=(1, 1), d=(0, 5), e=(2, 5), f=(1, 6)),
                      bars("ab", "bc", "ca", "de", "ef", "fd", "ad", "be", "cf"))
        self.assertIs(is_spread(prism, prism), False)
        self.check_spread(prism)
        self.check_spread(Frame(joints(a=(1, 1), b=(1, 1), c=(1, 1)), []))

    def test_stress_off_all_lines(self):
        # Steps that lead to a frame with a stress at places of which no three are on one line.
        steps = [("start", "n", "j"), ("add", "k", "n", "j"), ("split", "p", "n", "k", "j"),
                 ("split", "o", "j", "k", "n"), ("split", "e", "n", "p", "k")]
        held, linked = slow_built(steps)
        self.check_spread(frame_of(sorted(held), sorted(map(sorted, linked)), at_one_line=True))
        for steps in some_steps(100, 5, most=7):
            held, linked = slow_built(steps)
            self.check_spread(frame_of(sorted(held), sorted(map(sorted, linked)), at_one_line=True))

    def test_edges(self):
        for frame in (Frame([], []), Frame(joints(a=(5, 5)), [], grounds=[("a", "fixed")]), triangle(), wheel()):
            self.check_spread(frame)

    def test_largest(self):
        names = "abcdefgh"
        for steps in some_steps(12, 79, most=7):
            held, linked = slow_built(steps)
            self.check_spread(frame_of(sorted(held), sorted(map(sorted, linked)), at_one_line=True))
        pairs = list(itertools.combinations(names, 2))
        self.check_spread(frame_of(names, pairs, at_one_line=True))
        self.check_spread(frame_of(names, [], at_one_line=True))
        nine = frame_of("abcdefghi", pairs)
        check_error(self, OutOfBounds, {"argument": "frame"}, spread, nine)
        self.assertIs(is_spread(nine, nine), freedom(nine) == counted_freedom(nine))
        bowed = frame_of("abcdefghi", pairs[:7])
        self.assertIs(is_spread(bowed, bowed), True)
        flat = frame_of("abcdefghijkl", ["ab", "bc", "ca"], at_one_line=True)
        self.assertIs(is_spread(flat, flat), False)

    def test_is_spread(self):
        frame = Frame(joints(a=(0, 0), b=(1, 0), c=(2, 0)), bars("ab", "bc", "ca"), grounds=[("a", "fixed")])
        good = Frame(joints(a=(7, 0), b=(1, 0), c=(2, 1)), frame.bars, grounds=frame.grounds)
        self.assertIs(is_spread(frame, good), True)
        for value in [
            None, True, [], good.joints, (good,), [good], frame, Load([]), bare(good),
            Frame(good.joints[::-1], good.bars, grounds=good.grounds),
            Frame(good.joints, good.bars[::-1], grounds=good.grounds),
            Frame(good.joints, good.bars[:2], grounds=good.grounds),
            Frame(good.joints, bars("ab", "bc", "ac"), grounds=good.grounds),
            Frame(good.joints, bars("ab", "bc") + [("ca", "a", "c", "rod")], grounds=good.grounds),
            Frame(good.joints, bars("ab", "bc") + bars("ca", role="tie"), grounds=good.grounds),
            Frame(good.joints, good.bars, grounds=[("a", point(1, 0))]),
            Frame(good.joints, good.bars, grounds=[*good.grounds, ("b", "fixed")]),
            Frame(good.joints + joints(d=(9, 9)), good.bars, grounds=good.grounds),
        ]:
            self.assertIs(is_spread(frame, value), False)


class TestCopies(unittest.TestCase):
    def test_fresh(self):
        check_fresh(self, lambda: built_pairs(TRIANGLE))
        check_fresh(self, lambda: take_down(triangle()))
        check_fresh(self, lambda: crowd_stress(crossed_square(), "bd"))

    def test_arguments_stay(self):
        frame, steps = triangle(), list(TRIANGLE)
        built_pairs(steps)
        is_building(frame, steps)
        spread(frame)
        check_error(self, BadSteps, {"subject": 2}, built_pairs, steps * 2)
        self.assertEqual((frame, steps), (triangle(), TRIANGLE))
        before = copy.deepcopy(spread(frame).joints)
        spread(frame).joints.clear()
        self.assertEqual(spread(frame).joints, before)

    def test_crowds_are_crowded(self):
        self.assertIs(is_crowded(crossed_square(), crowd(crossed_square(), "bd")), True)
