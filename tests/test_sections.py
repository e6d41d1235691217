import copy
import itertools
import unittest

from helpers import (
    NO_FRAMES, NO_LOADS, NO_NAME_LISTS, NO_RATIOS, bars, check_error, check_fresh, crossed_square, forces, fraction,
    joints, point, q, triangle,
)
from reference import places_of, rank, slow_power, some_frames, speeds_of
from standframes.errors import RepeatedName, UnknownName, WrongKind
from standframes.forces import carry
from standframes.frames import Frame
from standframes.loads import Load
from standframes.motions import is_motion
from standframes.sections import balance, cut_bars, section


def groups(frame):
    names = [row[0] for row in frame.joints]
    return [list(group) for size in range(len(names) + 1) for group in itertools.combinations(names, size)]


def wrench(frame, joint, x, y):
    a, b = places_of(frame)[joint]
    return [x, y, a * y - b * x]


def added(vectors):
    return [sum(items) for items in zip([0, 0, 0], *vectors)]


def unit_wrenches(frame, group):
    """The wrenches of the unknowns of a section, in order."""
    places = places_of(frame)
    found = []
    for _, one, other, _ in frame.bars:
        if (one in group) != (other in group):
            here, there = (one, other) if one in group else (other, one)
            found.append(wrench(frame, here, *[places[there][k] - places[here][k] for k in (0, 1)]))
    for joint, across in frame.grounds:
        if joint in group:
            ways = [(1, 0), (0, 1)] if across == "fixed" else [(-fraction(across[1]), fraction(across[0]))]
            found.extend(wrench(frame, joint, *way) for way in ways)
    return found


def slow_balance(frame, load, group, pulls, reactions):
    places = places_of(frame)
    parts = [
        wrench(frame, name, fraction(x), fraction(y)) for name, x, y in load.entries + reactions if name in group]
    for (_, one, other, _), (_, pull) in zip(frame.bars, pulls):
        for here, there in ((one, other), (other, one)):
            if here in group and there not in group:
                force = [fraction(pull) * (places[there][k] - places[here][k]) for k in (0, 1)]
                parts.append(wrench(frame, here, *force))
    return added(parts)


def tower():
    """Two panels with one diagonal each, on a fixed and a sliding joint."""
    places = joints(a=(0, 0), b=(3, 0), c=(0, 4), d=(3, 4), e=(0, 8), f=(3, 8))
    return Frame(places, bars("ac", "bd", "bc", "cd", "ce", "df", "de", "ef", "ab"),
                 grounds=[("a", "fixed"), ("b", point(1, 0))])


class TestCutBars(unittest.TestCase):
    def test_small(self):
        frame = crossed_square()
        self.assertEqual(cut_bars(frame, ["a"]), ["ab", "da", "ac"])
        self.assertEqual(cut_bars(frame, ["c", "a"]), ["ab", "bc", "cd", "da"])
        self.assertEqual(cut_bars(frame, ["a", "b"]), ["bc", "da", "ac", "bd"])
        self.assertEqual(cut_bars(frame, ["b", "c", "d"]), ["ab", "da", "ac"])
        self.assertEqual(cut_bars(frame, []), [])
        self.assertEqual(cut_bars(frame, ["d", "b", "a", "c"]), [])
        self.assertEqual(cut_bars(Frame([], []), []), [])
        self.assertEqual(cut_bars(Frame(joints(a=(0, 0)), []), ["a"]), [])

    def test_bars_and_joints_of_one_name(self):
        frame = Frame(joints(a=(0, 0), b=(1, 0), c=(2, 0)), [("b", "a", "c", "tie"), ("a", "b", "c", "prop")])
        self.assertEqual(cut_bars(frame, ["a"]), ["b"])
        self.assertEqual(cut_bars(frame, ["c"]), ["b", "a"])

    def test_errors(self):
        frame = triangle()
        for value in NO_FRAMES:
            check_error(self, WrongKind, {"argument": "frame"}, cut_bars, value, None)
        for value in NO_NAME_LISTS:
            check_error(self, WrongKind, {"argument": "joints"}, cut_bars, frame, value)
        check_error(self, WrongKind, {"argument": "joints"}, cut_bars, frame, ["a", "a", "x", None])
        check_error(self, RepeatedName, {"repeated": "y"}, cut_bars, frame, ["x", "a", "y", "y", "a"])
        check_error(self, UnknownName, {"unknown": "x"}, cut_bars, frame, ["a", "x", "y"])
        check_error(self, UnknownName, {"unknown": "ab"}, cut_bars, frame, ["a", "ab"])


class TestBalance(unittest.TestCase):
    def test_small(self):
        frame = Frame(joints(a=(0, 0), b=(2, 1), c=(5, 5)), bars("ab", "bc"), grounds=[("a", "fixed")])
        pulls = [("ab", q(3)), ("bc", q(1, 2))]
        load = Load(forces(a=(1, 0), b=(0, 7)))
        told = {"pulls": pulls, "reactions": forces(a=(10, 20))}
        self.assertEqual(balance(frame, load, ["a"], **told), (q(17), q(23), q(0)))
        # At b: the load, and the two bars.
        self.assertEqual(balance(frame, load, ["b"], **told), (q(-9, 2), q(6), q(33, 2)))
        # The bar between them is no cut bar.
        self.assertEqual(balance(frame, load, ["a", "b"], **told), (q(25, 2), q(29), q(33, 2)))
        self.assertEqual(balance(frame, load, ["b", "a"], **told), (q(25, 2), q(29), q(33, 2)))
        self.assertEqual(balance(frame, load, ["c"], **told), (q(-3, 2), q(-2), q(-5, 2)))
        self.assertEqual(balance(frame, load, ["c", "b", "a"], **told), (q(11), q(27), q(14)))
        self.assertEqual(balance(frame, load, [], **told), (q(0), q(0), q(0)))
        self.assertEqual(balance(Frame([], []), Load([]), [], pulls=[], reactions=[]), (q(0), q(0), q(0)))

    def test_many(self):
        zeros = 0
        for frame, load in some_frames(60, 41):
            answer = carry(frame, load)
            pulls = [(row[0], q(k, 3)) for k, row in enumerate(frame.bars)]
            sliding = {name: across for name, across in frame.grounds if across != "fixed"}
            reactions = []
            for k, (name, _) in enumerate(frame.grounds):
                turn = (-fraction(sliding[name][1]), fraction(sliding[name][0])) if name in sliding else (2, -1)
                reactions.append((name, q(k * turn[0]), q(k * turn[1])))
            for group in groups(frame):
                due = tuple(q(item) for item in slow_balance(frame, load, group, pulls, reactions))
                self.assertEqual(balance(frame, load, group[::-1], pulls=pulls, reactions=reactions), due)
                if answer[0] == "forces":
                    zeros += 1
                    found = balance(frame, load, group, pulls=answer[1], reactions=answer[2])
                    self.assertEqual(found, (q(0), q(0), q(0)))
        self.assertTrue(zeros > 100, zeros)

    def test_errors(self):
        frame = triangle(grounds=[("b", "fixed"), ("a", point(1, 0))])
        pulls = [(name, q(1)) for name in ("ab", "bc", "ca")]
        reactions = forces(b=(1, 1), a=(0, 1))
        good = {"pulls": pulls, "reactions": reactions}
        for value in NO_FRAMES:
            check_error(self, WrongKind, {"argument": "frame"}, balance, value, None, None, pulls=None, reactions=None)
        for value in NO_LOADS:
            check_error(self, WrongKind, {"argument": "load"}, balance, frame, value, None, pulls=None, reactions=None)
        for value in NO_NAME_LISTS:
            check_error(self, WrongKind, {"argument": "joints"}, balance, frame, Load([]), value, reactions=0, pulls=0)
        for value in [
            None, pulls[:-1], pulls[::-1], tuple(pulls), pulls + pulls[:1], [], reactions,
            *[[*pulls[:-1], ("ca", one)] for one in NO_RATIOS],
        ]:
            call = {"argument": "pulls"}, balance, frame, Load([]), ["a"]
            check_error(self, WrongKind, *call, reactions=None, pulls=value)
        for value in [
            None, reactions[::-1], reactions[:1], tuple(reactions), forces(b=(1, 1), a=(1, 1)), [], pulls,
            *[[("b", one, q(1)), reactions[1]] for one in NO_RATIOS],
        ]:
            call = {"argument": "reactions"}, balance, frame, Load(forces(x=(1, 1))), ["y", "y"]
            check_error(self, WrongKind, *call, reactions=value, pulls=pulls)
        load = Load(forces(y=(1, 1), x=(1, 1), a=(1, 1)))
        check_error(self, RepeatedName, {"repeated": "z"}, balance, frame, load, ["z", "z"], **good)
        check_error(self, UnknownName, {"unknown": "x"}, balance, frame, load, ["u"], **good)
        check_error(self, UnknownName, {"unknown": "u"}, balance, frame, Load([]), ["a", "u", "v"], **good)


class TestSection(unittest.TestCase):
    def test_tower(self):
        frame = tower()
        load = Load(forces(e=(6, 0), f=(0, -3)))
        # The upper panel: the moment about d, where two of the bars meet, gives the third one, and so on.
        due = [("ce", q(2)), ("df", q(-3, 4)), ("de", q(-2))]
        self.assertEqual(section(frame, load, ["f", "e"]), ("pulls", due, []))
        self.assertEqual(section(frame, load, ["a", "c", "d", "b"]), ("open", 3))
        found = dict(carry(frame, load)[1])
        self.assertEqual([found[name] for name, _ in due], [pull for _, pull in due])
        due = [("ac", q(4)), ("bd", q(-11, 4)), ("bc", q(-2))]
        self.assertEqual(section(frame, load, ["c", "d", "e", "f"]), ("pulls", due, []))
        self.assertEqual([found[name] for name, _ in due], [pull for _, pull in due])

    def test_reactions(self):
        frame = tower()
        load = Load(forces(e=(6, 0), f=(0, -3)))
        names = ["a", "b", "c", "d", "e", "f"]
        answer = carry(frame, load)
        self.assertEqual(section(frame, load, names), ("pulls", [], answer[2]))
        self.assertEqual(answer[2], forces(a=(-6, -16), b=(0, 19)))
        turned = Frame(frame.joints, frame.bars, grounds=frame.grounds[::-1])
        self.assertEqual(section(turned, load, names), ("pulls", [], forces(b=(0, 19), a=(-6, -16))))
        # A slide in a direction of any length.
        frame = Frame(joints(a=(0, 0), b=(4, 0)), bars("ab"), grounds=[("a", point(-3, 6)), ("b", point(0, 5))])
        load = Load(forces(a=(2, 1), b=(3, 0)))
        self.assertEqual(section(frame, load, ["b"]), ("open", 1))
        self.assertEqual(section(frame, load, ["a"]), ("pulls", [("ab", q(0))], forces(a=(-2, -1))))
        self.assertEqual(section(frame, load, ["a", "b"]), ("pulls", [], forces(a=(-2, -1), b=(-3, 0))))

    def test_without_unknowns(self):
        for frame in (Frame([], []), triangle(), triangle(grounds=[("a", "fixed")])):
            self.assertEqual(section(frame, Load([]), []), ("pulls", [], []))
        self.assertEqual(section(triangle(), Load(forces(a=(1, 2))), []), ("pulls", [], []))
        self.assertEqual(section(triangle(), Load([]), ["a", "b", "c"]), ("pulls", [], []))
        pair = Load(forces(a=(1, 0), b=(-1, 0)))
        self.assertEqual(section(triangle(), pair, ["c", "a", "b"]), ("pulls", [], []))
        for load in (Load(forces(a=(1, 0))), Load(forces(a=(0, 1), b=(0, -1)))):
            answer = section(triangle(), load, ["a", "b", "c"])
            self.assertEqual(answer[0], "motion")
            self.assertIs(is_motion(triangle(), answer[1]), True)
            self.assertEqual(slow_power(load, answer[1]), 1)
        alone = Frame(joints(a=(1, 1)), [])
        self.assertEqual(section(alone, Load([]), ["a"]), ("pulls", [], []))
        self.assertEqual(section(alone, Load(forces(a=(0, 4))), ["a"])[0], "motion")

    def test_open(self):
        frame = crossed_square(grounds=[("a", "fixed"), ("b", "fixed")])
        for group, free in [(["a"], 3), (["a", "b"], 5), (["c"], 1), (["c", "d"], 1), (["a", "b", "c", "d"], 1)]:
            self.assertEqual(section(frame, Load([]), group), ("open", free))

    def test_many(self):
        words = {"pulls": 0, "open": 0, "motion": 0}
        for frame, load in some_frames(120, 42):
            for group in groups(frame):
                answer = section(frame, load, group[::-1])
                words[answer[0]] += 1
                units = unit_wrenches(frame, group)
                given = added([wrench(frame, name, fraction(x), fraction(y)) for name, x, y in load if name in group])
                size = rank(units)
                if rank([*units, given]) > size:
                    self.check_motion(frame, load, group, answer)
                elif size < len(units):
                    self.assertEqual(answer, ("open", len(units) - size))
                else:
                    self.check_pulls(frame, load, group, answer)
        self.assertTrue(min(words.values()) > 100, words)

    def check_pulls(self, frame, load, group, answer):
        word, pulls, reactions = answer
        self.assertEqual(word, "pulls")
        self.assertEqual([name for name, _ in pulls], cut_bars(frame, group))
        self.assertEqual([row[0] for row in reactions], [name for name, _ in frame.grounds if name in group])
        found = dict(pulls)
        every = [(row[0], found.get(row[0], q(5))) for row in frame.bars]
        self.assertEqual(slow_balance(frame, load, group, every, reactions), [0, 0, 0])
        held = dict(frame.grounds)
        for name, x, y in reactions:
            if held[name] != "fixed":
                self.assertEqual(fraction(x) * fraction(held[name][0]) + fraction(y) * fraction(held[name][1]), 0)

    def check_motion(self, frame, load, group, answer):
        word, velocities = answer
        self.assertEqual(word, "motion")
        self.assertIs(is_motion(frame, velocities), True)
        self.assertEqual(slow_power(load, velocities), 1)
        speeds, places = speeds_of(velocities), places_of(frame)
        for name, speed in speeds.items():
            if name not in group:
                self.assertEqual(speed, (0, 0))
        # Rows of the three ratios s, t and r, ending with the velocity.
        rows = [row for name in group for row in (
            [1, 0, -places[name][1], speeds[name][0]], [0, 1, places[name][0], speeds[name][1]])]
        self.assertEqual(rank(rows), rank([row[:3] for row in rows]))

    def test_errors(self):
        frame = triangle()
        for value in NO_FRAMES:
            check_error(self, WrongKind, {"argument": "frame"}, section, value, None, None)
        for value in NO_LOADS:
            check_error(self, WrongKind, {"argument": "load"}, section, frame, value, None)
        for value in NO_NAME_LISTS:
            check_error(self, WrongKind, {"argument": "joints"}, section, frame, Load(forces(x=(1, 1))), value)
        load = Load(forces(y=(1, 1), x=(1, 1), a=(1, 1)))
        check_error(self, RepeatedName, {"repeated": "z"}, section, frame, load, ["z", "z"])
        check_error(self, UnknownName, {"unknown": "x"}, section, frame, load, ["u"])
        check_error(self, UnknownName, {"unknown": "u"}, section, frame, Load([]), ["a", "u", "v"])


class TestCopies(unittest.TestCase):
    def test_fresh(self):
        frame, load = tower(), Load(forces(e=(6, 0), f=(0, -3)))
        check_fresh(self, lambda: section(frame, load, ["e", "f"]))
        check_fresh(self, lambda: section(frame, load, ["a", "b", "c", "d", "e", "f"]))
        check_fresh(self, lambda: section(triangle(), Load(forces(a=(1, 0))), ["a", "b", "c"]))
        check_fresh(self, lambda: section(frame, load, []))
        check_fresh(self, lambda: cut_bars(frame, ["a", "d"]))

    def test_arguments_stay(self):
        frame, load = tower(), Load(forces(e=(6, 0), f=(0, -3)))
        group = ["f", "e"]
        word, pulls, reactions = carry(frame, load)
        before = copy.deepcopy([pulls, reactions])
        balance(frame, load, group, pulls=pulls, reactions=reactions)
        section(frame, load, group)
        cut_bars(frame, group)
        self.assertEqual((group, [pulls, reactions], word), (["f", "e"], before, "forces"))
        self.assertEqual((frame, load.entries), (tower(), forces(e=(6, 0), f=(0, -3))))
