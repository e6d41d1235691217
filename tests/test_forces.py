import copy
import unittest
from fractions import Fraction

from helpers import (
    NO_FRAMES, NO_RATIOS, bars, check_error, check_fresh, crossed_square, forces, fraction, joints, point, q, triangle,
    wheel,
)
from reference import carried, check_forces, check_motion, free_unknowns, some_frames, unknowns
from standframes.errors import UnknownName, WrongKind
from standframes.forces import carry, is_carry, is_own_stress, own_stresses
from standframes.frames import Frame
from standframes.loads import Load


class TestCarry(unittest.TestCase):
    def test_small(self):
        frame = Frame(joints(a=(0, 0), b=(2, 0)), bars("ab"), grounds=[("a", "fixed")])
        self.assertEqual(carry(frame, Load.single("b", q(3), q(0))), ("forces", [("ab", q(3, 2))], forces(a=(-3, 0))))
        answer = carry(frame, Load.single("b", q(3), q(5)))
        self.assertEqual(answer[0], "motion")
        self.assertEqual(answer[1], [("a", q(0), q(0)), ("b", q(0), q(1, 5))])
        self.assertEqual(carry(Frame([], []), Load([])), ("forces", [], []))
        alone = Frame(joints(a=(1, 1)), [])
        self.assertEqual(carry(alone, Load([])), ("forces", [], []))
        self.assertEqual(carry(alone, Load.single("a", q(0), q(4)))[0], "motion")
        held = Frame(joints(a=(1, 1)), [], grounds=[("a", "fixed")])
        self.assertEqual(carry(held, Load.single("a", q(5), q(4))), ("forces", [], forces(a=(-5, -4))))

    def test_slide(self):
        frame = Frame(joints(a=(0, 0)), [], grounds=[("a", point(1, 2))])
        self.assertEqual(carry(frame, Load.single("a", q(4), q(-2))), ("forces", [], forces(a=(-4, 2))))
        answer = carry(frame, Load.single("a", q(1), q(2)))
        self.assertEqual(answer, ("motion", [("a", q(1, 5), q(2, 5))]))

    def test_pull_is_force_over_length(self):
        # A weight on two bars: the left one pulls, the right one pushes.
        frame = Frame(joints(a=(0, 4), b=(0, 0), c=(3, 0)), bars("ac", "bc"), grounds=[("a", "fixed"), ("b", "fixed")])
        answer = carry(frame, Load.single("c", q(0), q(-8)))
        self.assertEqual(answer, ("forces", [("ac", q(2)), ("bc", q(-2))], forces(a=(-6, 8), b=(6, 0))))

    def test_plain_solution(self):
        # One bar too many: the last unknown that depends on those before it is zero.
        frame = crossed_square(grounds=[("a", "fixed"), ("b", point(1, 0))])
        answer = carry(frame, Load(forces(c=(1, 0))))
        self.assertEqual(answer[0], "forces")
        self.assertEqual(answer[1][5], ("bd", q(0)))
        check_forces(self, frame, Load(forces(c=(1, 0))), *answer[1:])
        # Grounds that share a load: only the first is needed.
        frame = Frame(joints(a=(0, 0), b=(2, 0)), bars("ab"), grounds=[("b", "fixed"), ("a", "fixed")])
        answer = carry(frame, Load.single("a", q(1), q(0)))
        self.assertEqual(answer, ("forces", [("ab", q(-1, 2))], [("b", q(-1), q(0)), ("a", q(0), q(0))]))

    def test_many(self):
        words = {"forces": 0, "motion": 0}
        for frame, load in some_frames(250, 31):
            answer = carry(frame, load)
            words[answer[0]] += 1
            self.assertEqual(answer[0], "forces" if carried(frame, load) else "motion")
            if answer[0] == "forces":
                self.assertEqual(len(answer), 3)
                check_forces(self, frame, load, *answer[1:])
                values = unknowns(frame, *answer[1:])
                self.assertFalse(any(values[k] for k in free_unknowns(frame)))
            else:
                self.assertEqual(len(answer), 2)
                check_motion(self, frame, load, answer[1])
            self.assertIs(is_carry(frame, load, answer), True)
        self.assertTrue(min(words.values()) > 50, words)

    def test_roles_have_no_effect(self):
        load = Load(forces(a=(1, 1), c=(-1, -1)))
        answers = [
            carry(Frame(joints(a=(0, 0), c=(1, 1)), bars("ac", role=role)), load) for role in ("rod", "tie", "prop")]
        self.assertEqual(answers[0], answers[1])
        self.assertEqual(answers[0], answers[2])
        self.assertEqual(answers[0], ("forces", [("ac", q(1))] if False else [("ac", q(-1))], []))

    def test_zero_load(self):
        for frame, _ in some_frames(30, 32):
            word, pulls, reactions = carry(frame, Load([]))
            self.assertEqual(word, "forces")
            self.assertTrue(all(pull == (0, 1) for _, pull in pulls))
            self.assertTrue(all(row[1:] == ((0, 1), (0, 1)) for row in reactions))

    def test_one_line_and_one_place(self):
        line = Frame(joints(a=(0, 0), b=(1, 0), c=(2, 0)), bars("ab", "bc", "ac"), grounds=[("a", "fixed")])
        answer = carry(line, Load.single("b", q(0), q(1)))
        check_motion(self, line, Load.single("b", q(0), q(1)), answer[1])
        answer = carry(line, Load.single("b", q(1), q(0)))
        self.assertEqual(answer, ("forces", [("ab", q(1)), ("bc", q(0)), ("ac", q(0))], forces(a=(-1, 0))))
        place = Frame(joints(a=(0, 0), b=(3, 4), c=(3, 4)), bars("ab", "ac"), grounds=[("a", "fixed")])
        answer = carry(place, Load(forces(b=(3, 4), c=(-6, -8))))
        self.assertEqual(answer[:2], ("forces", [("ab", q(1)), ("ac", q(-2))]))

    def test_long_numbers(self):
        far = 10 ** 900 + 1
        frame = Frame([("a", q(0), q(0)), ("b", q(far), q(1, far))], bars("ab"), grounds=[("a", "fixed")])
        self.assertEqual(carry(frame, Load.single("b", q(far * far), q(1)))[1], [("ab", q(far))])

    def test_answers_come_back(self):
        frame = crossed_square(grounds=[("a", "fixed"), ("b", point(1, 0))])
        load = Load(forces(c=(999999999, 1), d=(123456789, -987654321)))
        answer = carry(frame, load)
        self.assertIs(is_carry(frame, load, answer), True)
        self.assertIs(is_carry(frame, load * q(2), answer), False)


class TestIsCarry(unittest.TestCase):
    def setUp(self):
        self.frame = crossed_square(grounds=[("a", "fixed"), ("b", point(1, 0))])
        self.load = Load(forces(c=(1, 0)))
        self.answer = carry(self.frame, self.load)

    def test_every_right_answer(self):
        stress = own_stresses(self.frame)[0]
        for factor in (q(1), q(-2, 3), q(10 ** 30)):
            pulls = [
                (name, q(fraction(pull) + fraction(factor) * fraction(more)))
                for (name, pull), (_, more) in zip(self.answer[1], stress)
            ]
            self.assertIs(is_carry(self.frame, self.load, ("forces", pulls, self.answer[2])), True)
            pulls[2] = (pulls[2][0], q(fraction(pulls[2][1]) + 1))
            self.assertIs(is_carry(self.frame, self.load, ("forces", pulls, self.answer[2])), False)

    def test_every_motion_with_power(self):
        frame = triangle(grounds=[("a", "fixed")])
        load = Load(forces(b=(0, 2)))
        turn = forces(a=(0, 0), b=(0, 4), c=(-3, 0))
        self.assertEqual(carry(frame, load)[0], "motion")
        for factor in (1, 7, Fraction(1, 8)):
            velocities = [(name, q(fraction(x) * factor), q(fraction(y) * factor)) for name, x, y in turn]
            self.assertIs(is_carry(frame, load, ("motion", velocities)), True)
        for velocities in [
            forces(a=(0, 0), b=(0, -4), c=(3, 0)), forces(a=(0, 0), b=(0, 0), c=(0, 0)),
            forces(a=(0, 1), b=(0, 5), c=(-3, 1)), forces(a=(0, 0), b=(0, 4), c=(-2, 0)),
            forces(a=(0, 0), b=(1, 4), c=(-3, 0)), forces(a=(0, 0), b=(0, 4)), [], turn[::-1], turn + turn[:1],
        ]:
            self.assertIs(is_carry(frame, load, ("motion", velocities)), False)
        for word in ("Motion", "", "forces", None, True, ["motion"]):
            self.assertIs(is_carry(frame, load, (word, turn)), False)
        self.assertIs(is_carry(frame, Load(forces(b=(5, 0))), ("motion", turn)), False)
        slide = Frame(joints(a=(0, 0)), [], grounds=[("a", point(1, 1))])
        self.assertIs(is_carry(slide, Load(forces(a=(1, 0))), ("motion", forces(a=(2, 2)))), True)
        self.assertIs(is_carry(slide, Load(forces(a=(1, 0))), ("motion", forces(a=(2, 1)))), False)
        self.assertIs(is_carry(slide, Load(forces(a=(1, 0))), ("motion", forces(a=(1, -1)))), False)

    def test_reactions_along_the_slide(self):
        # These forces add up to zero, but the ground cannot give them.
        frame = Frame(joints(a=(0, 0), b=(1, 0)), bars("ab"), grounds=[("b", point(1, 0)), ("a", "fixed")])
        load = Load(forces(b=(1, 1)))
        self.assertIs(is_carry(frame, load, ("forces", [("ab", q(1))], forces(b=(0, -1), a=(-1, 0)))), True)
        self.assertIs(is_carry(frame, load, ("forces", [("ab", q(0))], forces(b=(-1, -1), a=(0, 0)))), False)
        self.assertIs(is_carry(frame, load, ("forces", [("ab", q(1))], forces(a=(-1, 0), b=(0, -1)))), False)
        self.assertIs(is_carry(frame, load, ("forces", [("ab", q(2))], forces(b=(0, -1), a=(-1, 0)))), False)
        self.assertIs(is_carry(frame, load, ("forces", [("ab", q(1))], forces(b=(0, -1), a=(-1, 1)))), False)

    def test_other_values(self):
        word, pulls, reactions = self.answer
        self.assertIs(is_carry(self.frame, self.load, self.answer), True)
        zeros = forces(a=(0, 0), b=(0, 0), c=(0, 0), d=(0, 0))
        for answer in [
            None, True, 5, "forces", (), (word,), (word, pulls), list(self.answer), (word, pulls, reactions, []),
            (word, tuple(pulls), reactions), (word, pulls, tuple(reactions)), ("motion", pulls, reactions),
            ("motion", zeros), ("motion", pulls), ("motion", zeros, []), (word, reactions, pulls), (word, [], []),
            (word, pulls[:-1], reactions), (word, pulls + pulls[:1], reactions), (word, pulls[::-1], reactions),
            (word, pulls, reactions[:1]), (word, pulls, reactions[::-1]), (word, pulls, reactions + reactions[:1]),
            (word, [list(row) for row in pulls], reactions), (word, pulls, [list(row) for row in reactions]),
            (word, [row[1] for row in pulls], reactions), (word, None, None), (True, pulls, reactions), {word: pulls},
            (word, [*pulls[:-1], ("xy", q(0))], reactions), (word, pulls, [reactions[0], ("c", *reactions[1][1:])]),
            ("Forces", pulls, reactions), self.frame, self.load, UnknownName("a"), (self.frame, pulls, reactions),
            (word, self.frame, reactions), (word, [self.load, *pulls[1:]], reactions), ([word], pulls, reactions),
            (word, [(self.frame, q(0)), *pulls[1:]], reactions), ("solution", pulls, reactions),
        ]:
            self.assertIs(is_carry(self.frame, self.load, answer), False)
        for value in NO_RATIOS:
            self.assertIs(is_carry(self.frame, self.load, (word, [*pulls[:-1], ("bd", value)], reactions)), False)
            answer = (word, pulls, [("a", value, reactions[0][2]), reactions[1]])
            self.assertIs(is_carry(self.frame, self.load, answer), False)
            self.assertIs(is_carry(self.frame, self.load, ("motion", [("a", q(0), value), *zeros[1:]])), False)

    def test_empty_frame(self):
        self.assertIs(is_carry(Frame([], []), Load([]), ("forces", [], [])), True)
        self.assertIs(is_carry(Frame([], []), Load([]), ("motion", [])), False)

    def test_errors(self):
        frame = triangle()
        for call in (carry, lambda one, load: is_carry(one, load, 0), lambda one, load: carry(load=load, frame=one)):
            for value in NO_FRAMES:
                check_error(self, WrongKind, {"argument": "frame"}, call, value, None)
            for value in [None, 1, [], forces(a=(1, 1)), frame]:
                check_error(self, WrongKind, {"argument": "load"}, call, frame, value)
            load = Load(forces(y=(1, 1), x=(1, 1), a=(1, 1)))
            check_error(self, UnknownName, {"unknown": "x"}, call, frame, load)
            check_error(self, UnknownName, {"unknown": "a"}, call, Frame([], []), load)


class TestOwnStresses(unittest.TestCase):
    def test_examples(self):
        self.assertEqual(own_stresses(wheel()), [[
            ("ab", q(-1, 3)), ("bc", q(-1, 3)), ("ca", q(-1, 3)), ("ad", q(1)), ("bd", q(1)), ("cd", q(1))]])
        self.assertEqual(own_stresses(triangle()), [])
        self.assertEqual(own_stresses(Frame([], [])), [])
        self.assertEqual(own_stresses(Frame(joints(a=(0, 0)), [])), [])
        line = Frame(joints(a=(0, 0), b=(1, 0), c=(3, 0)), bars("ab", "bc", "ac"))
        self.assertEqual(own_stresses(line), [[("ab", q(-3)), ("bc", q(-3, 2)), ("ac", q(1))]])

    def test_grounds_have_no_effect(self):
        grounds = [("a", "fixed"), ("c", point(1, 2)), ("b", "fixed"), ("d", "fixed")]
        self.assertEqual(own_stresses(crossed_square(grounds=grounds)), own_stresses(crossed_square()))
        pair = Frame(joints(a=(0, 0), b=(1, 0)), bars("ab"), grounds=[("a", "fixed"), ("b", "fixed")])
        self.assertEqual(own_stresses(pair), [])
        self.assertIs(is_own_stress(pair, [("ab", q(1))]), False)

    def test_many(self):
        seen = 0
        for frame, _ in some_frames(150, 33):
            loose = Frame(frame.joints, frame.bars)
            free = free_unknowns(loose)
            found = own_stresses(frame)
            self.assertEqual(len(found), len(free))
            for at, pulls in zip(free, found):
                seen += 1
                check_forces(self, loose, Load([]), pulls, [])
                self.assertEqual([pulls[k][1] for k in free], [q(k == at) for k in free])
                self.assertIs(is_own_stress(frame, pulls), True)
        self.assertTrue(seen > 20, seen)

    def test_several(self):
        names = "abcde"
        places = joints(a=(0, 0), b=(3, 0), c=(4, 5), d=(1, 2), e=(2, 9))
        frame = Frame(places, bars(*[one + other for one in names for other in names if one < other]))
        found = own_stresses(frame)
        self.assertEqual([pulls[7:] for pulls in found], [
            [("cd", q(1)), ("ce", q(0)), ("de", q(0))], [("cd", q(0)), ("ce", q(1)), ("de", q(0))],
            [("cd", q(0)), ("ce", q(0)), ("de", q(1))]])
        both = [
            (one[0], q(2 * fraction(one[1]) - 3 * fraction(other[1]))) for one, other in zip(found[0], found[2])]
        self.assertIs(is_own_stress(frame, both), True)

    def test_is_own_stress(self):
        frame = wheel()
        good = own_stresses(frame)[0]
        self.assertIs(is_own_stress(frame, good), True)
        self.assertIs(is_own_stress(frame, [(name, q(-5 * fraction(pull))) for name, pull in good]), True)
        self.assertIs(is_own_stress(frame, [(name, q(0)) for name, _ in good]), True)
        self.assertIs(is_own_stress(Frame([], []), []), True)
        self.assertIs(is_own_stress(Frame([], []), [("ab", q(0))]), False)
        for value in [
            None, 1, "ab", tuple(good), good[:-1], good + good[-1:], good[::-1], [list(row) for row in good], [],
            [*good[:-1], ("cd", q(2))], [*good[:-1], ("xx", q(1))], [*good[:-1], ("cd", q(1), q(1))], {}, frame,
            [(name, q(1)) for name, _ in good], [*good[:-1], frame], [good], (good,), ("forces", good, []), Load([]),
            [dict(good)], dict(good),
        ]:
            self.assertIs(is_own_stress(frame, value), False)
        for value in NO_RATIOS:
            self.assertIs(is_own_stress(frame, [*good[:-1], ("cd", value)]), False)

    def test_errors(self):
        for value in NO_FRAMES:
            check_error(self, WrongKind, {"argument": "frame"}, own_stresses, value)
            check_error(self, WrongKind, {"argument": "frame"}, is_own_stress, value, None)


class TestCopies(unittest.TestCase):
    def test_fresh(self):
        frame = crossed_square(grounds=[("a", "fixed"), ("b", point(1, 0))])
        load = Load(forces(c=(1, 0)))
        check_fresh(self, lambda: carry(frame, load))
        check_fresh(self, lambda: carry(triangle(), load))
        check_fresh(self, lambda: own_stresses(frame))
        check_fresh(self, lambda: carry(Frame([], []), Load([])))

    def test_equal_arguments(self):
        one = carry(triangle(), Load([("a", q(1), q(0)), ("b", q(1), q(1))]))
        carry(wheel(), Load(forces(d=(1, 0))))
        load = Load([("b", q(1), q(1)), ("c", q(0), q(0)), ("a", q(3), q(0)), ("a", q(-2), q(0))])
        self.assertEqual(carry(triangle(grounds=[]), load), one)

    def test_arguments_stay(self):
        frame = crossed_square(grounds=[("a", "fixed")])
        load = Load(forces(c=(1, 0)))
        answer = carry(frame, load)
        before = copy.deepcopy(answer)
        is_carry(frame, load, answer)
        self.assertEqual(answer, before)
        self.assertEqual(frame, crossed_square(grounds=[("a", "fixed")]))
        self.assertEqual(load.entries, forces(c=(1, 0)))
