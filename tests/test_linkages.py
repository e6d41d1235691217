import copy
import random
import unittest
from fractions import Fraction

from helpers import (
    HUGE, NO_FRAMES, NO_NAMES, NO_RATIOS, bars, check_error, check_fresh, crossed_square, forces, fraction, joints,
    point, q, qs, triangle,
)
from reference import some_frames
from standframes.errors import NotCrank, OutOfBounds, RepeatedName, UnknownName, WrongKind
from standframes.frames import Frame
from standframes.linkages import course, fits_positions, positions, sweep
from standframes.placing import meet, meet_line, turn_point

NO_TURNS = [1, (), "ab", ("ab",), ["ab", (1, 1)], ("ab", (1, 1), 1), ((1, 1), "ab"), {}, ("ab", None), [], True,
            [("ab", (1, 1))], triangle()]
NO_SQUARES = [1, (), "ab", {}, [None], ["ab"], [("ab",)], [["ab", (1, 1)]], [("ab", (1, 1), 1)], [((1, 1), "ab")],
              (("ab", (1, 1)),), [("ab", (1, 1)), None], True, triangle()]


def four_bar():
    """A crank o-p of length 5, a coupler p-r of length 10, and a rocker r-e of length 5, on two fixed joints."""
    places = joints(o=(0, 0), e=(10, 0), p=(3, 4), r=(13, 4))
    return Frame(places, bars("op", "pr", "re"), grounds=[("o", "fixed"), ("e", "fixed")])


def slider():
    """A crank and a piston that slides on a level line."""
    places = joints(o=(0, 0), p=(3, 4), s=(6, 0))
    return Frame(places, bars("op", "ps"), grounds=[("o", "fixed"), ("s", point(1, 0))])


def row(name, x, y):
    return (name, q(x), q(y))


class TestCourse(unittest.TestCase):
    def test_small(self):
        frame = four_bar()
        self.assertEqual(course(frame), ("stuck", ["p", "r"]))
        self.assertEqual(course(frame, crank=None), ("stuck", ["p", "r"]))
        self.assertEqual(course(frame, crank="op"), ("placings", [("meet", "r", "pr", "re")]))
        self.assertEqual(course(frame, crank="re"), ("placings", [("meet", "p", "op", "pr")]))
        self.assertEqual(course(slider()), ("stuck", ["p", "s"]))
        self.assertEqual(course(slider(), crank="op"), ("placings", [("slide", "s", "ps")]))
        self.assertEqual(course(Frame([], [])), ("placings", []))
        self.assertEqual(course(Frame(joints(b=(0, 0), a=(1, 1)), [])), ("stuck", ["b", "a"]))
        held = Frame(joints(b=(0, 0), a=(1, 1)), bars("ab"), grounds=[("a", "fixed"), ("b", "fixed")])
        self.assertEqual(course(held), ("placings", []))

    def test_beginning_anew(self):
        # After d is placed, e and c come before the joint behind d.
        places = joints(a=(0, 0), b=(4, 0), e=(1, 1), c=(2, 2), d=(2, 5), f=(9, 9))
        grounds = [("b", "fixed"), ("a", "fixed")]
        lines = bars("da", "bd", "dc", "ca", "fb", "af", "ec", "ed", "ea")
        self.assertEqual(course(Frame(places, lines, grounds=grounds)), ("placings", [
            ("meet", "d", "da", "bd"), ("meet", "e", "ed", "ea"), ("meet", "c", "dc", "ca"),
            ("meet", "f", "fb", "af")]))
        # With the bars in another order the first two to placed joints are others.
        self.assertEqual(course(Frame(places, lines[::-1], grounds=grounds)), ("placings", [
            ("meet", "d", "bd", "da"), ("meet", "e", "ea", "ed"), ("meet", "c", "ec", "ca"),
            ("meet", "f", "af", "fb")]))

    def test_slides(self):
        places = joints(a=(0, 0), b=(2, 0), c=(3, 3), d=(5, 5))
        lines = bars("cb", "ba", "dc", "bd")
        frame = Frame(places, lines, grounds=[("a", "fixed"), ("b", point(1, 0)), ("c", point(0, 2))])
        self.assertEqual(course(frame), ("placings", [
            ("slide", "b", "ba"), ("slide", "c", "cb"), ("meet", "d", "dc", "bd")]))
        # A sliding joint without a bar is never placed, also with a bar to a joint that is not placed.
        frame = Frame(places, bars("cd"), grounds=[("a", "fixed"), ("b", point(1, 0)), ("c", point(0, 2))])
        self.assertEqual(course(frame), ("stuck", ["b", "c", "d"]))
        # A joint without a ground needs two bars.
        frame = Frame(places, bars("ab", "ac", "bc"), grounds=[("a", "fixed")])
        self.assertEqual(course(frame), ("stuck", ["b", "c", "d"]))

    def test_many(self):
        words = {"placings": 0, "stuck": 0}
        for frame, _ in some_frames(400, 171):
            cranks = [None] + [bar for bar, _, _, _ in frame.bars if self.pin(frame, bar)]
            for crank in cranks:
                found = course(frame, crank=crank)
                words[found[0]] += bool(found[1])
                self.assertEqual(found, self.slow_course(frame, crank))
        self.assertTrue(min(words.values()) > 50, words)

    def pin(self, frame, bar):
        holds = dict(frame.grounds)
        one, other = frame.ends(bar)
        return next((b for a, b in ((one, other), (other, one)) if holds.get(a) == "fixed" and b not in holds), None)

    def slow_course(self, frame, crank):
        holds = dict(frame.grounds)
        names = [name for name, _, _ in frame.joints]
        placed = [name for name in names if holds.get(name) == "fixed"] + ([self.pin(frame, crank)] if crank else [])
        placings = []
        while True:
            for name in names:
                near = [bar for bar, one, other, _ in frame.bars if name in (one, other) and
                        (one if name == other else other) in placed]
                need = 1 if name in holds else 2
                if name not in placed and len(near) >= need:
                    placings.append(("slide" if need == 1 else "meet", name, *near[:need]))
                    placed.append(name)
                    break
            else:
                left = [name for name in names if name not in placed]
                return ("stuck", left) if left else ("placings", placings)

    def test_errors(self):
        frame = four_bar()
        for value in NO_FRAMES:
            check_error(self, WrongKind, {"argument": "frame"}, course, value, crank=7)
        for value in NO_NAMES:
            if value is not None:
                check_error(self, WrongKind, {"argument": "crank"}, course, frame, crank=value)
        check_error(self, UnknownName, {"unknown": "po"}, course, frame, crank="po")
        check_error(self, UnknownName, {"unknown": "o"}, course, frame, crank="o")
        check_error(self, NotCrank, {"subject": "pr"}, course, frame, crank="pr")
        # A crank has one fixed end and one without a ground.
        for grounds in [[("o", "fixed"), ("p", "fixed")], [("o", point(1, 0))], [("o", "fixed"), ("p", point(1, 0))],
            []]:
            other = Frame(frame.joints, frame.bars, grounds=grounds)
            check_error(self, NotCrank, {"subject": "op"}, course, other, crank="op")
        for grounds in [[("o", "fixed")], [("p", "fixed")]]:
            course(Frame(frame.joints, frame.bars, grounds=grounds), crank="op")

    def test_fresh(self):
        check_fresh(self, lambda: course(four_bar(), crank="op"))
        check_fresh(self, lambda: course(four_bar()))


class TestPositions(unittest.TestCase):
    def test_parallel_crank(self):
        frame = four_bar()
        found = positions(frame, turn=("op", q(0)))
        self.assertEqual(found, ("places", frame.joints))
        # A quarter turn.
        found = positions(frame, turn=("op", q(1)))
        self.assertEqual(found, ("places", [row("o", 0, 0), row("e", 10, 0), row("p", -4, 3), row("r", 6, 3)]))
        found = positions(frame, turn=("re", q(-1)))
        # On the same side of the line from o to r as before: this is not the parallel place (4, -3).
        self.assertEqual(found[1][2:], [row("p", Fraction(200, 41), Fraction(45, 41)), row("r", 14, -3)])
        self.assertEqual(found[0], "places")
        self.assertEqual(positions(frame), ("stuck", ["p", "r"]))

    def test_slider(self):
        frame = slider()
        self.assertEqual(positions(frame, turn=("op", q(0))), ("places", frame.joints))
        self.assertEqual(positions(frame, turn=("op", q(-1, 2))), (
            "places", [row("o", 0, 0), row("p", 5, 0), row("s", 10, 0)]))
        # Turned to (-4, 3), the piston is 4 to the right of it.
        self.assertEqual(positions(frame, turn=("op", q(1))), (
            "places", [row("o", 0, 0), row("p", -4, 3), row("s", 0, 0)]))
        # The side is that of the given frame.
        other = Frame(joints(o=(0, 0), p=(3, 4), s=(0, 0)), frame.bars, grounds=frame.grounds)
        self.assertEqual(positions(other, turn=("op", q(-1, 2))), (
            "places", [row("o", 0, 0), row("p", 5, 0), row("s", 0, 0)]))
        turned = Frame(frame.joints, frame.bars, grounds=[("o", "fixed"), ("s", point(-3, 0))])
        self.assertEqual(positions(turned, turn=("op", q(-1, 2))), positions(frame, turn=("op", q(-1, 2))))
        # Straight above the piston, the side is 1, along the direction.
        above = Frame(joints(o=(0, 0), p=(3, 4), s=(3, 0)), bars("op", "ps"), grounds=frame.grounds)
        spot = positions(above, turn=("op", q(0)), squares=[("ps", q(25))])
        self.assertEqual(spot, ("places", [row("o", 0, 0), row("p", 3, 4), row("s", 6, 0)]))
        back = Frame(above.joints, above.bars, grounds=[("o", "fixed"), ("s", point(-1, 0))])
        spot = positions(back, turn=("op", q(0)), squares=[("ps", q(25))])
        self.assertEqual(spot, ("places", [row("o", 0, 0), row("p", 3, 4), row("s", 0, 0)]))

    def test_meet_sides(self):
        grounds = [("a", "fixed"), ("b", "fixed")]
        for y, side in [(4, 1), (-4, -1), (0, 1)]:
            frame = Frame(joints(a=(0, 0), b=(6, 0), c=(3, y)), bars("ac", "bc"), grounds=grounds)
            squares = [("ac", q(25)), ("bc", q(25))]
            self.assertEqual(positions(frame, squares=squares), (
                "places", [row("a", 0, 0), row("b", 6, 0), row("c", 3, 4 * side)]))
            other = Frame(frame.joints, bars("bc", "ac"), grounds=grounds)
            # On the line of both, the left side is that of the way from the first one to the second.
            due = 4 * side if y else -4
            self.assertEqual(positions(other, squares=squares)[1][2], row("c", 3, due))

    def test_ends(self):
        grounds = [("a", "fixed"), ("b", "fixed")]
        frame = Frame(joints(b=(6, 0), a=(0, 0), c=(3, 4)), bars("ac", "bc"), grounds=grounds)
        placed = [row("b", 6, 0), row("a", 0, 0)]
        for squares, due in [
            ([("ac", q(4)), ("bc", q(9))], ("far", "c", placed)),
            ([("ac", q(100)), ("bc", q(1))], ("near", "c", placed)),
            ([("ac", q(24))], ("root", "c", meet(point(0, 0), point(6, 0), q(24), q(25)), placed)),
            ([("ac", q(9)), ("bc", q(9))], ("places", placed + [row("c", 3, 0)])),
        ]:
            self.assertEqual(positions(frame, squares=squares), due)
        same = Frame(joints(a=(0, 0), b=(0, 0), c=(3, 4)), bars("ac", "bc"), grounds=grounds)
        self.assertEqual(positions(same), ("same", "c", [row("a", 0, 0), row("b", 0, 0)]))
        slide = Frame(joints(a=(0, 3), c=(4, 0)), bars("ac"), grounds=[("a", "fixed"), ("c", point(1, 0))])
        self.assertEqual(positions(slide, squares=[("ac", q(8))]), ("far", "c", [row("a", 0, 3)]))
        self.assertEqual(positions(slide, squares=[("ac", q(9))]), ("places", [row("a", 0, 3), row("c", 0, 0)]))
        self.assertEqual(positions(slide, squares=[("ac", q(10))]), ("places", [row("a", 0, 3), row("c", 1, 0)]))
        self.assertEqual(positions(slide, squares=[("ac", q(11))]), (
            "root", "c", ("root", point(0, 0), point(1, 0), q(2)), [row("a", 0, 3)]))

    def test_order_of_placed(self):
        # The fixed joints in the order of the joints, then the pin, then the others as they are placed.
        places = joints(r=(13, 4), p=(3, 4), e=(10, 0), z=(13, 9), o=(0, 0))
        frame = Frame(places, bars("op", "pr", "re", "zr"),
            grounds=[("o", "fixed"), ("z", point(0, 1)), ("e", "fixed")])
        found = positions(frame, turn=("op", q(1)), squares=[("zr", q(1))])
        self.assertEqual(found, ("far", "z", [row("e", 10, 0), row("o", 0, 0), row("p", -4, 3), row("r", 6, 3)]))

    def test_strained(self):
        frame = crossed_square(grounds=[("a", "fixed"), ("b", "fixed")])
        self.assertEqual(positions(frame), ("places", frame.joints))
        self.assertEqual(positions(frame, squares=[("bd", q(3))]), ("strained", "bd", frame.joints))
        self.assertEqual(positions(frame, squares=[("bd", q(3)), ("ab", q(3))]), ("strained", "ab", frame.joints))
        self.assertEqual(positions(frame, squares=[("bd", q(2)), ("ab", q(1))]), ("places", frame.joints))
        # The bars cd and da place d: it is where they meet.
        self.assertEqual(positions(frame, squares=[("cd", q(3))])[:2], ("root", "d"))
        held = Frame(joints(a=(0, 0), b=(1, 0)), bars("ab"), grounds=[("a", "fixed"), ("b", "fixed")])
        self.assertEqual(positions(held, squares=[("ab", q(4))]), ("strained", "ab", held.joints))

    def test_wide(self):
        grounds = [("a", "fixed"), ("b", point(1, 0))]
        for size, word in [(10 ** 200 - 1, "places"), (10 ** 200, "wide"), (10 ** 201, "wide")]:
            for x, y in [((size, 1), q(0)), ((-size, 1), q(0)), ((1, size), q(0)), ((-1, size), q(0))]:
                frame = Frame([("a", q(0), q(0)), ("b", x, y)], bars("ab"), grounds=grounds)
                found = positions(frame)
                self.assertEqual(found[0], word)
                if word == "wide":
                    self.assertEqual(found, ("wide", "b", [row("a", 0, 0)]))
            # The y is looked at, too.
            for y in [(size, 1), (-1, size)]:
                frame = Frame([("a", q(0), q(0)), ("b", q(0), y)], bars("ab"),
                    grounds=[("a", "fixed"), ("b", point(0, 1))])
                self.assertEqual(positions(frame)[0], word)
        # The fixed joints and the pin are not looked at.
        far = (10 ** 300, 1)
        frame = Frame([("a", far, q(0)), ("p", far, q(5)), ("b", q(0), q(0))], bars("ap", "ab"), grounds=[
            ("a", "fixed"), ("b", point(1, 0))])
        found = positions(frame, turn=("ap", q(1)))
        self.assertEqual(found[0], "places")
        self.assertEqual(found[1][2], row("b", 0, 0))
        self.assertEqual(found[1][0], ("a", far, q(0)))

    def test_wide_root(self):
        # A spot with a root is never wide.
        frame = Frame([("a", q(0), q(0)), ("b", (10 ** 250, 1), q(0))], bars("ab"),
            grounds=[("a", "fixed"), ("b", point(1, 0))])
        word, joint, spot, placed = positions(frame, squares=[("ab", (10 ** 501, 1))])
        self.assertEqual((word, joint, spot[0], placed), ("root", "b", "root", [row("a", 0, 0)]))

    def test_many(self):
        source = random.Random(172)
        words = {}
        for _ in range(1500):
            frame = self.some_linkage(source)
            names = [bar for bar, _, _, _ in frame.bars]
            turn = ("k0", q(source.randint(-3, 3), source.randint(1, 2))) if source.random() < 0.8 else None
            squares = None
            if source.random() < 0.4:
                free = [bar for bar in names if not turn or bar != turn[0]]
                told = source.sample(free, source.randint(0, min(2, len(free))))
                squares = [(bar, q(source.choice([1, 4, 9, 25, 2, 13]))) for bar in told]
            found = positions(frame, turn=turn, squares=squares)
            self.assertEqual(found, self.slow_positions(frame, turn, squares))
            words[found[0]] = words.get(found[0], 0) + 1
            if found[0] == "places":
                self.assertIs(fits_positions(frame, found[1], turn=turn, squares=squares), True)
            if found[0] == "strained":
                self.assertIs(fits_positions(frame, found[2], turn=turn, squares=squares), False)
        self.assertTrue(len(words) >= 6 and min(words[word] for word in ("far", "near", "root", "places")) > 30, words)

    def some_linkage(self, source):
        """Bars of whole length on a grid, so that squares are met often."""
        steps = [(3, 4), (4, 3), (-3, 4), (5, 0), (0, 5), (4, -3), (-4, 3), (0, 4), (3, 0), (6, 8)]
        places = {"o": (0, 0), "p": source.choice(steps), "e": (source.choice([6, 8, 10]), 0)}
        lines = [("k0", *source.sample("op", 2))]
        for name in source.sample("rst", source.randint(1, 3)):
            x, y = places[source.choice(list(places))]
            a, b = source.choice(steps)
            places[name] = (x + a, y + b)
            for other in source.sample(sorted(places), source.randint(1, 3)):
                if places[other] != places[name]:
                    lines.append((f"k{len(lines)}", *source.sample([name, other], 2)))
        grounds = [("o", "fixed"), ("e", "fixed")]
        for name in places:
            if name in "rst" and source.random() < 0.4:
                grounds.append((name, source.choice([point(1, 0), point(0, 1), point(-3, 4)])))
        order = source.sample(sorted(places), len(places))
        seen, kept = set(), []
        for line in lines:
            if frozenset(line[1:]) not in seen:
                seen.add(frozenset(line[1:]))
                kept.append((*line, "rod"))
        return Frame([row(name, *places[name]) for name in order], kept, grounds=grounds)

    def slow_positions(self, frame, turn, squares):
        """By the words of points 53 and 54, with the functions of standframes.placing."""
        told = course(frame, crank=turn and turn[0])
        if told[0] == "stuck":
            return told
        due = {bar: frame.squared(bar) for bar, _, _, _ in frame.bars}
        due.update(squares or [])
        places = {name: (x, y) for name, x, y in frame.joints if frame.across(name) == "fixed"}
        if turn:
            hub, pin = sorted(frame.ends(turn[0]), key=lambda name: frame.across(name) != "fixed")
            places[pin] = turn_point(frame.place(pin), frame.place(hub), turn[1])
        for word, joint, *used in told[1]:
            ends = [next(end for end in frame.ends(bar) if end != joint) for bar in used]
            j, *around = [[fraction(item) for item in frame.place(name)] for name in (joint, *ends)]
            if word == "meet":
                p, s = around
                number = (s[0] - p[0]) * (j[1] - p[1]) - (s[1] - p[1]) * (j[0] - p[0])
                side = -1 if number < 0 else 1
                spot = meet(places[ends[0]], places[ends[1]], due[used[0]], due[used[1]], side=side)
            else:
                way = frame.across(joint)
                number = sum(fraction(way[k]) * (j[k] - around[0][k]) for k in (0, 1))
                side = -1 if number < 0 else 1
                spot = meet_line(frame.place(joint), way, places[ends[0]], due[used[0]], side=side)
            placed = [(name, *place) for name, place in places.items()]
            if spot[0] == "root":
                return ("root", joint, spot, placed)
            if spot[0] != "at":
                return (spot[0], joint, placed)
            if any(len(str(abs(part))) > 200 for item in spot[1] for part in item):
                return ("wide", joint, placed)
            places[joint] = spot[1]
        found = [(name, *places[name]) for name, _, _ in frame.joints]
        for bar, one, other, _ in frame.bars:
            gap = sum((fraction(x) - fraction(y)) ** 2 for x, y in zip(places[one], places[other]))
            if q(gap) != due[bar]:
                return ("strained", bar, found)
        return ("places", found)

    def check_kinds(self, call, frame):
        for value in NO_TURNS:
            check_error(self, WrongKind, {"argument": "turn"}, call, frame, turn=value, squares=7)
        for value in NO_NAMES:
            check_error(self, WrongKind, {"argument": "turn"}, call, frame, turn=(value, q(1)), squares=7)
            check_error(self, WrongKind, {"argument": "squares"}, call, frame, turn=("zz", q(1)),
                squares=[(value, q(1))])
        for value in NO_RATIOS:
            check_error(self, WrongKind, {"argument": "turn"}, call, frame, turn=("zz", value), squares=7)
        for value in NO_SQUARES:
            check_error(self, WrongKind, {"argument": "squares"}, call, frame, turn=("zz", q(1)), squares=value)
        for value in [*NO_RATIOS, q(0), q(-1), q(-1, 5)]:
            check_error(self, WrongKind, {"argument": "squares"}, call, frame, squares=[("zz", value)])

    def test_errors(self):
        frame = four_bar()
        for call in (positions, lambda frame, **more: fits_positions(frame, None, **more)):
            for value in NO_FRAMES:
                check_error(self, WrongKind, {"argument": "frame"}, call, value, turn=7, squares=7)
            self.check_kinds(call, frame)
            one = q(1)
            for turn, squares, name in [
                (None, ["zz", "yy", "yy", "zz"], "yy"), (("zz", one), ["op", "zz", "op"], "zz"),
                (("op", one), ["pr", "op"], "op"), (("pr", one), ["op", "op", "pr"], "op"), (None, ["op"] * 40, "op"),
            ]:
                told = [(bar, one) for bar in squares]
                check_error(self, RepeatedName, {"repeated": name}, call, frame, turn=turn, squares=told)
            for turn, squares, name in [
                (("zz", one), ["yy"], "zz"), (("pr", one), ["op", "yy", "xx"], "yy"), (None, ["xx"], "xx"),
                (("o", one), [], "o"), (("pr", one), [f"b{k}" for k in range(40)], "b0"),
            ]:
                told = [(bar, one) for bar in squares]
                check_error(self, UnknownName, {"unknown": name}, call, frame, turn=turn, squares=told)
            for squares in (None, [], [("op", one)]):
                check_error(self, NotCrank, {"subject": "pr"}, call, frame, turn=("pr", one), squares=squares)

    def test_defaults(self):
        frame = four_bar()
        self.assertEqual(positions(frame), positions(frame, turn=None, squares=None))
        self.assertEqual(positions(frame), positions(frame, squares=[]))

    def test_nothing_changes(self):
        frame, squares = four_bar(), [("pr", q(100)), ("re", q(25))]
        before = copy.deepcopy(squares)
        found = positions(frame, turn=("op", q(1)), squares=squares)
        fits_positions(frame, found[1], turn=("op", q(1)), squares=squares)
        self.assertEqual((squares, frame), (before, four_bar()))
        check_fresh(self, lambda: positions(frame, turn=("op", q(1))))
        check_fresh(self, lambda: positions(frame, turn=("op", q(1, 9))))
        check_fresh(self, lambda: positions(frame))


class TestFitsPositions(unittest.TestCase):
    def test_small(self):
        frame = four_bar()
        good = [row("o", 0, 0), row("e", 10, 0), row("p", -4, 3), row("r", 6, 3)]
        self.assertIs(fits_positions(frame, good, turn=("op", q(1))), True)
        self.assertIs(fits_positions(frame, good), True)
        self.assertIs(fits_positions(frame, good, turn=("op", q(0))), False)
        self.assertIs(fits_positions(frame, good, turn=("re", q(1))), True)
        self.assertIs(fits_positions(frame, good, squares=[("pr", q(100))]), True)
        self.assertIs(fits_positions(frame, good, squares=[("pr", q(99))]), False)
        # The other side is as good.
        other = [row("o", 0, 0), row("e", 10, 0), row("p", 5, 0), row("r", 15, 0)]
        self.assertIs(fits_positions(frame, other), True)
        for value in [
            None, 1, (), [], good[::-1], good[:3], tuple(good), {}, "places", frame, ("places", good),
            [row("o", 0, 1), row("e", 10, 1), row("p", -4, 4), row("r", 6, 4)], [list(one) for one in good],
            good[:3] + [row("r", 6, 4)], good[:3] + [("r", 6, 3)], good[:3] + [("r", q(6))],
        ]:
            self.assertIs(fits_positions(frame, value), False)
        for value in NO_RATIOS:
            self.assertIs(fits_positions(frame, [*good[:3], ("r", value, q(3))]), False)
        self.assertIs(fits_positions(Frame([], []), []), True)

    def test_stuck_frames(self):
        # Whatever the course is.
        frame = Frame(joints(a=(0, 0), b=(1, 0)), bars("ab"))
        self.assertIs(fits_positions(frame, forces(a=(5, 5), b=(5, 6))), True)
        self.assertIs(fits_positions(frame, forces(a=(5, 5), b=(5, 7))), False)
        self.assertIs(fits_positions(frame, forces(a=(5, 5), b=(5, 7)), squares=[("ab", q(4))]), True)
        self.assertIs(fits_positions(Frame(joints(a=(0, 0)), []), forces(a=(7, 7))), True)

    def test_slides(self):
        frame = Frame(joints(a=(0, 0), b=(1, 1)), [], grounds=[("b", point(1, 2))])
        for x, y, due in [(1, 1, True), (2, 3, True), (0, -1, True), (2, 2, False), (Fraction(3, 2), 2, True)]:
            self.assertIs(fits_positions(frame, forces(a=(9, -9), b=(x, y))), due)
        frame = slider()
        self.assertIs(fits_positions(frame, forces(o=(0, 0), p=(5, 0), s=(10, 0))), True)
        self.assertIs(fits_positions(frame, forces(o=(0, 0), p=(5, 0), s=(0, 0))), True)
        self.assertIs(fits_positions(frame, forces(o=(0, 0), p=(5, 0), s=(8, 4))), False)


class TestSweep(unittest.TestCase):
    def test_small(self):
        frame = four_bar()
        tangents = qs(0, 1, -1, Fraction(1, 2), Fraction(1, 9), 1)
        found = sweep(frame, "op", tangents)
        self.assertEqual(found, [positions(frame, turn=("op", one)) for one in tangents])
        self.assertEqual(sweep(frame, "op", []), [])
        self.assertEqual(len(sweep(frame, "op", qs(*range(12)))), 12)
        stuck = Frame(frame.joints, bars("op"), grounds=frame.grounds)
        self.assertEqual(sweep(stuck, "op", qs(1, 2)), [("stuck", ["r"]), ("stuck", ["r"])])

    def test_errors(self):
        frame = four_bar()
        for value in NO_FRAMES:
            check_error(self, WrongKind, {"argument": "frame"}, sweep, value, None, None)
        for value in NO_NAMES:
            check_error(self, WrongKind, {"argument": "crank"}, sweep, frame, value, None)
        for value in [None, 1, (), {}, "1", (q(1),), *[[q(1), one] for one in NO_RATIOS]]:
            check_error(self, WrongKind, {"argument": "tangents"}, sweep, frame, "zz", value)
        check_error(self, OutOfBounds, {"argument": "tangents"}, sweep, frame, "zz", qs(*range(13)))
        for tangents in ([], qs(1), qs(*range(12))):
            check_error(self, UnknownName, {"unknown": "zz"}, sweep, frame, "zz", tangents)
            check_error(self, NotCrank, {"subject": "pr"}, sweep, frame, "pr", tangents)

    def test_fresh(self):
        check_fresh(self, lambda: sweep(four_bar(), "op", qs(1, 1, 0)))
        tangents = qs(1, 2)
        sweep(four_bar(), "op", tangents)
        self.assertEqual(tangents, qs(1, 2))

    def test_long_numbers(self):
        found = sweep(four_bar(), "op", [(HUGE, 1), (1, HUGE)])
        self.assertEqual([one[0] for one in found], ["wide", "wide"])
