import copy
import unittest
from fractions import Fraction

from helpers import (
    NO_FRAMES, NO_LOADS, NO_NAMES, NO_RATIOS, bars, check_error, check_fresh, crossed_square, forces, fraction, joints,
    point, q, triangle,
)
from reference import (
    balanced, check_forces, check_roles_kept, columns, fits_roles, rank, slow_power, slow_rates, some_frames,
)
from standframes.errors import NotHeld, NotOneWay, UnknownName, WrongKind
from standframes.forces import carry
from standframes.frames import Frame
from standframes.loads import Load
from standframes.motions import freedom
from standframes.oneway import hold, is_hold, is_slack, is_steady, slack, slack_bars, steady


def with_roles(frame, *roles):
    return Frame(frame.joints, [(*row[:3], role) for row, role in zip(frame.bars, roles)], grounds=frame.grounds)


def hanger(role):
    """A joint on one bar under a fixed one, that can also slide up and down."""
    return Frame(joints(a=(0, 2), b=(0, 0)), bars("ab", role=role), grounds=[("a", "fixed"), ("b", point(0, 1))])


def guyed(**roles):
    """A mast on a fixed foot, between two stays."""
    told = {"am": "tie", "bm": "tie", "fm": "prop", **roles}
    lines = [(*row[:3], told[row[0]]) for row in bars("am", "bm", "fm")]
    return Frame(joints(a=(-3, 0), b=(3, 0), f=(0, 0), m=(0, 4)), lines,
                 grounds=[("a", "fixed"), ("b", "fixed"), ("f", "fixed")])


def stays():
    """The mast without its prop."""
    return Frame(guyed().joints, guyed().bars[:2], grounds=guyed().grounds)


def role_frames(number, seed):
    """Frames and loads; half of the loads are such that forces which fit the roles carry them."""
    signs = {"rod": -1, "tie": 1, "prop": -1}
    for k, (frame, load) in enumerate(some_frames(number, seed)):
        if k % 2:
            load = balanced(frame, [signs[row[3]] * (at % 3) for at, row in enumerate(frame.bars)])
        yield frame, load


class TestHold(unittest.TestCase):
    def test_hanger(self):
        down, up = Load(forces(b=(0, -4))), Load(forces(b=(0, 4)))
        for role, load, due in [
            ("tie", down, q(2)), ("rod", down, q(2)), ("rod", up, q(-2)), ("prop", up, q(-2)),
        ]:
            answer = hold(hanger(role), load)
            self.assertEqual(answer, ("forces", [("ab", due)], forces(a=(0, 2 * due[0]), b=(0, 0))))
        for role, load, y in [("tie", up, q(1, 4)), ("prop", down, q(-1, 4))]:
            self.assertEqual(hold(hanger(role), load), ("motion", [("a", q(0), q(0)), ("b", q(0), y)]))
        for role in ("rod", "tie", "prop"):
            self.assertEqual(hold(hanger(role), Load([]))[0], "forces")

    def test_edges(self):
        empty, alone = Frame([], []), Frame(joints(a=(1, 1)), [])
        self.assertEqual(hold(empty, Load([])), ("forces", [], []))
        self.assertEqual(hold(alone, Load([])), ("forces", [], []))
        answer = hold(alone, Load(forces(a=(0, 5))))
        self.assertEqual(answer[0], "motion")
        self.assertEqual(slow_power(Load(forces(a=(0, 5))), answer[1]), 1)
        held = Frame(joints(a=(1, 1)), [], grounds=[("a", "fixed")])
        self.assertEqual(hold(held, Load(forces(a=(3, 5)))), ("forces", [], forces(a=(-3, -5))))
        slide = Frame(joints(a=(1, 1)), [], grounds=[("a", point(1, 1))])
        self.assertEqual(hold(slide, Load(forces(a=(2, -2)))), ("forces", [], forces(a=(-2, 2))))
        self.assertEqual(hold(slide, Load(forces(a=(1, 0)))), ("motion", forces(a=(1, 1))))

    def test_rods_alone(self):
        for frame, load in some_frames(60, 91):
            frame = with_roles(frame, *["rod"] * len(frame.bars))
            self.assertEqual(hold(frame, load)[0], carry(frame, load)[0])

    def test_many(self):
        words = {"forces": 0, "motion": 0}
        stricter = 0
        for frame, load in role_frames(600, 92):
            answer = hold(frame, load)
            words[answer[0]] += 1
            self.check_hold(frame, load, answer)
            self.assertIs(is_hold(frame, load, answer), True)
            stricter += answer[0] == "motion" and carry(frame, load)[0] == "forces"
        self.assertTrue(min(words.values()) > 60 and stricter > 10, (words, stricter))

    def check_hold(self, frame, load, answer):
        if answer[0] == "forces":
            _, pulls, reactions = answer
            check_forces(self, frame, load, pulls, reactions)
            self.assertTrue(fits_roles(frame, pulls))
        else:
            word, velocities = answer
            self.assertEqual(word, "motion")
            check_roles_kept(self, frame, velocities)
            self.assertEqual(slow_power(load, velocities), 1)

    def test_long_numbers(self):
        frame, load = guyed(), Load(forces(m=(10 ** 900, -(10 ** 950) + 1)))
        answer = hold(frame, load)
        self.check_hold(frame, load, answer)
        self.assertEqual(answer[0], "forces")
        load = Load(forces(m=(999999999, 1)))
        self.assertIs(is_hold(frame, load, hold(frame, load)), True)


class TestIsHold(unittest.TestCase):
    def test_every_right_answer(self):
        frame, load = guyed(), Load(forces(m=(3, -4)))
        half = Fraction(1, 2)
        for am, bm, fm, due in [
            (1, 0, -2, True), (2, 1, -4, True), (0, -1, 0, False), (7 * half, 5 * half, -7, True), (1, 1, -3, False),
        ]:
            pulls = [("am", q(am)), ("bm", q(bm)), ("fm", q(fm))]
            reactions = forces(a=(-3 * am, -4 * am), b=(3 * bm, -4 * bm), f=(0, -4 * fm))
            self.assertIs(is_hold(frame, load, ("forces", pulls, reactions)), due)

    def test_motions(self):
        frame, load = guyed(fm="tie"), Load(forces(m=(0, -4)))
        self.assertEqual(hold(frame, load)[0], "motion")
        for x, y, due in [(0, -1, True), (0, -8, True), (1, -1, True), (4, -3, True), (5, -3, False), (0, 0, False),
                          (0, 1, False), (-4, -3, True), (-5, -3, False), (1, 0, False)]:
            moves = forces(a=(0, 0), b=(0, 0), f=(0, 0), m=(x, y))
            self.assertIs(is_hold(frame, load, ("motion", moves)), due, (x, y))
            for word in ("Motion", "slack", "forces", "", None, True):
                self.assertIs(is_hold(frame, load, (word, moves)), False)
            wrong = forces(a=(0, 0), b=(0, 0), f=(0, -1), m=(x, y))
            self.assertIs(is_hold(frame, load, ("motion", wrong)), False)
        # A rod must keep its length, a prop must not get shorter.
        for role, x, y, due in [
            ("rod", 0, -1, False), ("rod", 1, 0, False), ("prop", 0, -1, False), ("tie", 0, -1, True),
        ]:
            frame = guyed(fm=role)
            load = Load(forces(m=(x, y)))
            moves = forces(a=(0, 0), b=(0, 0), f=(0, 0), m=(x, y))
            self.assertIs(is_hold(frame, load, ("motion", moves)), due)

    def test_other_values(self):
        frame, load = guyed(), Load(forces(m=(3, -4)))
        word, pulls, reactions = good = hold(frame, load)
        self.assertIs(is_hold(frame, load, good), True)
        zeros = forces(a=(0, 0), b=(0, 0), f=(0, 0), m=(0, 0))
        for answer in [
            None, True, 7, "forces", (), (word,), (word, pulls), list(good), (*good, []), ("motion", zeros), frame,
            load,
            (word, tuple(pulls), reactions), (word, pulls, tuple(reactions)), (word, pulls[::-1], reactions),
            (word, pulls, reactions[::-1]), (word, pulls[:2], reactions), (word, pulls, reactions[:2]), [good],
            ("motion", pulls, reactions), ("motion", zeros, []), (True, pulls, reactions), ("Forces", pulls, reactions),
            (word, [list(row) for row in pulls], reactions), (word, None, None), (word, reactions, pulls), {word: 1},
            ("motion", None), ("motion", pulls), ("forces", zeros), (frame, zeros), (None, zeros), (word, frame, load),
            ("works", pulls, reactions), ("steady", pulls, reactions),
        ]:
            self.assertIs(is_hold(frame, load, answer), False)
        for value in NO_RATIOS:
            self.assertIs(is_hold(frame, load, (word, [("am", value), *pulls[1:]], reactions)), False)
            self.assertIs(is_hold(frame, load, (word, pulls, [("a", value, q(0)), *reactions[1:]])), False)
            self.assertIs(is_hold(frame, load, ("motion", [*zeros[:3], ("m", value, q(0))])), False)

    def test_errors(self):
        frame = triangle()
        for call in (hold, slack_bars, lambda frame, load: is_hold(frame, load, None)):
            for value in NO_FRAMES:
                check_error(self, WrongKind, {"argument": "frame"}, call, value, None)
            for value in NO_LOADS:
                check_error(self, WrongKind, {"argument": "load"}, call, frame, value)
            load = Load(forces(y=(1, 1), x=(1, 1), a=(1, 1)))
            check_error(self, UnknownName, {"unknown": "x"}, call, frame, load)


class TestSlack(unittest.TestCase):
    def test_mast(self):
        frame, load = guyed(), Load(forces(m=(3, -4)))
        for bar in ("am", "bm", "fm"):
            answer = slack(frame, load, bar)
            self.assertEqual(answer[0], "works")
            self.assertNotEqual(dict(answer[1])[bar], q(0))
        self.assertEqual(slack_bars(frame, load), [])
        # Without the prop, only what the stays hold; then nothing pushes, and no stay may work under the zero load.
        frame = stays()
        self.assertEqual(slack_bars(frame, Load([])), ["am", "bm"])
        self.assertEqual(slack_bars(frame, Load(forces(m=(3, 4)))), ["bm"])
        self.assertEqual(slack_bars(frame, Load(forces(m=(-3, 4)))), ["am"])
        self.assertEqual(slack_bars(frame, Load(forces(m=(0, 1)))), [])
        word, velocities = slack(frame, Load(forces(m=(3, 4))), "bm")
        self.assertEqual(word, "slack")
        rates = slow_rates(frame, velocities)
        self.assertEqual(rates["am"], 0)
        self.assertLess(rates["bm"], 0)

    def test_many(self):
        words = {"works": 0, "slack": 0}
        for frame, load in role_frames(250, 93):
            one_way = [row[0] for row in frame.bars if row[3] != "rod"]
            if hold(frame, load)[0] == "motion":
                for bar in one_way:
                    check_error(self, NotHeld, {"subject": None}, slack, frame, load, bar)
                    check_error(self, NotHeld, {"subject": None}, is_slack, frame, load, bar, None)
                check_error(self, NotHeld, {"subject": None}, slack_bars, frame, load)
                continue
            due = []
            for bar in one_way:
                answer = slack(frame, load, bar)
                words[answer[0]] += 1
                self.assertIs(is_slack(frame, load, bar, answer), True)
                if answer[0] == "works":
                    _, pulls, reactions = answer
                    check_forces(self, frame, load, pulls, reactions)
                    self.assertTrue(fits_roles(frame, pulls))
                    self.assertNotEqual(dict(pulls)[bar], q(0))
                else:
                    due.append(bar)
                    _, velocities = answer
                    check_roles_kept(self, frame, velocities)
                    self.assertEqual(slow_power(load, velocities), 0)
                    self.assertNotEqual(slow_rates(frame, velocities)[bar], 0)
            self.assertEqual(slack_bars(frame, load), due)
        self.assertTrue(min(words.values()) > 50, words)

    def test_is_slack(self):
        frame, load = guyed(), Load(forces(m=(3, -4)))
        good = slack(frame, load, "bm")
        self.assertIs(is_slack(frame, load, "bm", good), True)
        word, pulls, reactions = good
        held = ("works", [("am", q(1)), ("bm", q(0)), ("fm", q(-2))], forces(a=(-3, -4), b=(0, 0), f=(0, 8)))
        self.assertIs(is_slack(frame, load, "am", held), True)
        self.assertIs(is_slack(frame, load, "fm", held), True)
        self.assertIs(is_slack(frame, load, "bm", held), False)
        zeros = forces(a=(0, 0), b=(0, 0), f=(0, 0), m=(0, 0))
        wrong = ("works", [("am", q(0)), ("bm", q(-1)), ("fm", q(0))], forces(a=(0, 0), b=(-3, 4), f=(0, 0)))
        for answer in [
            None, True, "works", (), list(good), (word, pulls), (*good, 1), ("slack", zeros),
            ("slack", pulls, reactions),
            ("works", zeros), ("forces", pulls, reactions), ("Works", pulls, reactions), (word, pulls[::-1], reactions),
            (word, pulls, reactions[:1]), wrong, ("slack", None), (word, None, None), frame, ("motion", zeros),
            (word, tuple(pulls), reactions), (None, zeros), {},
        ]:
            self.assertIs(is_slack(frame, load, "bm", answer), False)
        for value in NO_RATIOS:
            self.assertIs(is_slack(frame, load, "bm", (word, [*pulls[:2], ("fm", value)], reactions)), False)

    def test_is_slack_motions(self):
        frame, load = stays(), Load(forces(m=(3, 4)))
        for x, y, bar, due in [
            (4, -3, "bm", True), (-4, 3, "bm", False), (8, -6, "bm", True), (4, -3, "am", False), (0, 0, "bm", False),
            (-3, -4, "bm", False), (0, -1, "bm", False), (4, -2, "bm", False), (4, -4, "bm", False),
        ]:
            moves = forces(a=(0, 0), b=(0, 0), f=(0, 0), m=(x, y))
            self.assertIs(is_slack(frame, load, bar, ("slack", moves)), due, (x, y, bar))
            self.assertIs(is_slack(frame, load, bar, ("motion", moves)), False)
        # Without load there is no power, but the velocities must fit the roles and keep the grounds.
        for x, y, due in [(0, -1, True), (0, 1, False), (4, -3, True)]:
            moves = forces(a=(0, 0), b=(0, 0), f=(0, 0), m=(x, y))
            self.assertIs(is_slack(frame, Load([]), "bm", ("slack", moves)), due)
            moves = forces(a=(0, 0), b=(0, 0), f=(1, 0), m=(x, y))
            self.assertIs(is_slack(frame, Load([]), "bm", ("slack", moves)), False)

    def test_errors(self):
        frame, load = guyed(am="rod"), Load(forces(m=(3, -4)))
        far = Load(forces(y=(1, 1), x=(1, 1), a=(1, 1)))
        for call in (slack, lambda frame, load, bar: is_slack(frame, load, bar, None)):
            for value in NO_FRAMES:
                check_error(self, WrongKind, {"argument": "frame"}, call, value, None, None)
            for value in NO_LOADS:
                check_error(self, WrongKind, {"argument": "load"}, call, frame, value, None)
            for value in NO_NAMES:
                check_error(self, WrongKind, {"argument": "bar"}, call, frame, far, value)
            check_error(self, UnknownName, {"unknown": "x"}, call, frame, far, "zz")
            check_error(self, UnknownName, {"unknown": "ma"}, call, frame, load, "ma")
            check_error(self, NotOneWay, {"subject": "am"}, call, frame, load, "am")
            # A rod is told first, also if the load is not held.
            bad = Frame(joints(a=(0, 0), b=(1, 0), c=(2, 0)), bars("ab") + bars("bc", role="tie"))
            check_error(self, NotOneWay, {"subject": "ab"}, call, bad, Load(forces(a=(1, 0))), "ab")
            check_error(self, NotHeld, {"subject": None}, call, bad, Load(forces(a=(1, 0))), "bc")
        bad = Frame(joints(a=(0, 0), b=(1, 0)), bars("ab"))
        check_error(self, NotHeld, {"subject": None}, slack_bars, bad, Load(forces(a=(1, 0))))
        self.assertEqual(slack_bars(bad, Load(forces(a=(1, 0), b=(-1, 0)))), [])
        self.assertEqual(slack_bars(Frame([], []), Load([])), [])


class TestSteady(unittest.TestCase):
    def test_small(self):
        self.assertEqual(steady(Frame([], [])), ("steady", [], []))
        held = Frame(joints(a=(1, 1)), [], grounds=[("a", "fixed")])
        self.assertEqual(steady(held), ("steady", [], forces(a=(0, 0))))
        alone = Frame(joints(a=(1, 1)), [])
        self.assertEqual(steady(alone)[0], "motion")
        self.assertEqual(steady(guyed())[0], "steady")
        self.assertEqual(steady(guyed(fm="tie"))[0], "motion")
        self.assertEqual(steady(guyed(fm="rod"))[0], "steady")
        grounds = [("a", "fixed"), ("b", point(1, 0))]
        self.assertEqual(steady(triangle(grounds=grounds))[0], "steady")
        self.assertEqual(steady(with_roles(triangle(grounds=grounds), "tie", "tie", "tie"))[0], "motion")
        square = crossed_square(grounds=grounds)
        for roles, word in [
            (["tie"] * 4 + ["prop"] * 2, "steady"), (["prop"] * 4 + ["tie"] * 2, "steady"),
            (["tie"] * 5 + ["prop"], "motion"), (["rod"] * 5 + ["tie"], "steady"), (["rod"] * 6, "steady"),
            (["tie"] * 3 + ["prop"] * 3, "motion"),
        ]:
            self.assertEqual(steady(with_roles(square, *roles))[0], word)

    def test_many(self):
        words = {"steady": 0, "motion": 0}
        stands = 0
        for frame, _ in some_frames(400, 94):
            answer = steady(frame)
            words[answer[0]] += 1
            self.assertIs(is_steady(frame, answer), True)
            if answer[0] == "steady":
                _, pulls, reactions = answer
                self.assertEqual(rank(columns(frame)), 2 * len(frame.joints))
                check_forces(self, frame, Load([]), pulls, reactions)
                self.assertTrue(fits_roles(frame, pulls))
                for (_, pull), row in zip(pulls, frame.bars):
                    self.assertTrue(row[3] == "rod" or pull != q(0))
                words["steady"] += any(row[3] != "rod" for row in frame.bars)
            else:
                _, velocities = answer
                check_roles_kept(self, frame, velocities)
                self.assertTrue(any(row[1:] != (q(0), q(0)) for row in velocities))
                stands += freedom(frame) == 0
        self.assertTrue(min(words.values()) > 30 and stands > 20, (words, stands))

    def test_is_steady(self):
        frame = guyed()
        good = steady(frame)
        word, pulls, reactions = good
        self.assertIs(is_steady(frame, good), True)
        thrice = (word, [(name, q(3 * fraction(pull))) for name, pull in pulls],
                  [(name, q(3 * fraction(x)), q(3 * fraction(y))) for name, x, y in reactions])
        self.assertIs(is_steady(frame, thrice), True)
        zeros = forces(a=(0, 0), b=(0, 0), f=(0, 0), m=(0, 0))
        none = (word, [(name, q(0)) for name, _ in pulls], forces(a=(0, 0), b=(0, 0), f=(0, 0)))
        turned = (word, [(name, q(-fraction(pull))) for name, pull in pulls],
                  [(name, q(-fraction(x)), q(-fraction(y))) for name, x, y in reactions])
        for answer in [
            None, True, 3, "steady", (), list(good), (word, pulls), (*good, []), ("motion", zeros), none, turned,
            ("forces", pulls, reactions), ("Steady", pulls, reactions), (word, pulls[::-1], reactions),
            (word, None, None),
            (word, pulls, reactions[::-1]), (word, tuple(pulls), reactions), (word, pulls, tuple(reactions)), frame,
            (word, pulls, none[2]), ("motion", forces(a=(0, 0), b=(0, 0), f=(0, 0), m=(0, 1))), ("motion", None), {},
            ("motion", forces(a=(1, 0), b=(1, 0), f=(1, 0), m=(1, 0))), ("steady", zeros), ("motion", pulls, reactions),
        ]:
            self.assertIs(is_steady(frame, answer), False)
        for value in NO_RATIOS:
            self.assertIs(is_steady(frame, (word, [("am", value), *pulls[1:]], reactions)), False)
            self.assertIs(is_steady(frame, (word, pulls, [("a", q(0), value), *reactions[1:]])), False)
            self.assertIs(is_steady(frame, ("motion", [*zeros[:3], ("m", q(1), value)])), False)
        # A rod may have any pull, also none, but a frame that moves is not steady, whatever its pulls.
        rods = with_roles(frame, "rod", "rod", "rod")
        for answer in (good, none, turned):
            self.assertIs(is_steady(rods, answer), True)
        loose = Frame(joints(a=(0, 0)), [])
        self.assertIs(is_steady(loose, ("steady", [], [])), False)
        self.assertIs(is_steady(loose, ("motion", forces(a=(0, 7)))), True)
        self.assertIs(is_steady(loose, ("motion", forces(a=(0, 0)))), False)
        self.assertIs(is_steady(Frame([], []), ("motion", [])), False)
        self.assertIs(is_steady(Frame([], []), ("steady", [], [])), True)
        slack_mast = guyed(fm="tie")
        for x, y, due in [(0, -1, True), (3, -4, True), (1, 0, False), (0, 0, False)]:
            moves = forces(a=(0, 0), b=(0, 0), f=(0, 0), m=(x, y))
            self.assertIs(is_steady(slack_mast, ("motion", moves)), due)
            for word in ("Motion", "slack", "steady", "", None, True):
                self.assertIs(is_steady(slack_mast, (word, moves)), False)

    def test_errors(self):
        for value in NO_FRAMES:
            check_error(self, WrongKind, {"argument": "frame"}, steady, value)
            check_error(self, WrongKind, {"argument": "frame"}, is_steady, value, None)


class TestCopies(unittest.TestCase):
    def test_fresh(self):
        load = Load(forces(m=(3, -4)))
        check_fresh(self, lambda: hold(guyed(), load))
        check_fresh(self, lambda: hold(guyed(fm="tie"), load))
        check_fresh(self, lambda: slack(guyed(), load, "am"))
        check_fresh(self, lambda: slack(stays(), Load([]), "am"))
        check_fresh(self, lambda: slack_bars(stays(), Load([])))
        check_fresh(self, lambda: steady(guyed()))
        check_fresh(self, lambda: steady(guyed(fm="tie")))
        check_fresh(self, lambda: steady(triangle()))

    def test_arguments_stay(self):
        frame, load = guyed(), Load(forces(m=(3, -4)))
        answers = [hold(frame, load), slack(frame, load, "am"), steady(frame)]
        before = copy.deepcopy(answers)
        is_hold(frame, load, answers[0])
        is_slack(frame, load, "am", answers[1])
        is_steady(frame, answers[2])
        self.assertEqual(answers, before)
        self.assertEqual((frame, load.entries), (guyed(), forces(m=(3, -4))))
