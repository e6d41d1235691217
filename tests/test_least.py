import copy
import itertools
import random
import unittest
from fractions import Fraction

from helpers import NO_RATIOS, check_error, check_fresh, fraction, grid, q, qs
from standframes.errors import OutOfBounds, WrongKind
from standframes.least import is_least, is_signed_solve, least, signed_solve
from standframes.ratios import is_ratio


def product(one, other):
    return sum((fraction(x) * fraction(y) for x, y in zip(one, other)), Fraction(0))


def column(rows, k):
    return [row[k] for row in rows]


def fits(values, signs):
    return all(not (way == 1 and one[0] < 0 or way == -1 and one[0] > 0) for one, way in zip(values, signs))


def check_start(test, rows, right, signs, values):
    test.assertEqual(len(values), len(signs))
    test.assertTrue(all(is_ratio(one) for one in values))
    test.assertTrue(fits(values, signs))
    test.assertEqual([product(row, values) for row in rows], [fraction(one) for one in right])


def check_weights(test, rows, right, signs, weights):
    test.assertEqual(len(weights), len(rows))
    test.assertTrue(all(is_ratio(one) for one in weights))
    for k, way in enumerate(signs):
        value = product(column(rows, k), weights)
        test.assertTrue(value <= 0 if way == 1 else value >= 0 if way == -1 else value == 0)
    test.assertTrue(product(weights, right) > 0)


def check_least(test, rows, right, costs, signs, answer):
    """What point 10 says, in plain fractions."""
    if answer[0] == "none":
        test.assertEqual(len(answer), 2)
        check_weights(test, rows, right, signs, answer[1])
        return
    test.assertEqual(len(answer), 3)
    check_start(test, rows, right, signs, answer[1])
    if answer[0] == "endless":
        check_start(test, rows, qs(*[0 for _ in rows]), signs, answer[2])
        test.assertTrue(product(costs, answer[2]) < 0)
        return
    test.assertEqual(answer[0], "least")
    test.assertEqual(len(answer[2]), len(rows))
    test.assertTrue(all(is_ratio(one) for one in answer[2]))
    for k, way in enumerate(signs):
        reduced = fraction(costs[k]) - product(column(rows, k), answer[2])
        test.assertTrue(reduced >= 0 if way == 1 else reduced <= 0 if way == -1 else reduced == 0)
    test.assertEqual(product(answer[2], right), product(costs, answer[1]))


def systems(count, seed):
    source = random.Random(seed)
    for turn in range(count):
        height, width = source.randint(0, 5), source.randint(0, 7)
        rows = [
            [q(source.randint(-2, 2), source.randint(1, 2)) if source.random() < 0.7 else q(0) for _ in range(width)]
            for _ in range(height)
        ]
        if height > 2 and turn % 2:
            rows[2] = [q(fraction(x) + fraction(y)) for x, y in zip(rows[0], rows[1])]
        signs = [source.choice([1, 1, 0, -1]) for _ in range(width)]
        values = qs(*[way * source.randint(0, 2) if way else source.randint(-2, 2) for way in signs])
        right = [q(product(row, values)) for row in rows]
        if turn % 4 == 0:
            right = qs(*[source.randint(-1, 1) for _ in rows])
        costs = qs(*[source.randint(-1, 2) for _ in range(width)])
        if turn % 3 == 0:
            # With prices, no choice is endless.
            prices = qs(*[source.randint(-1, 1) for _ in rows])
            costs = [
                q(product(column(rows, k), prices) + way * source.randint(0, 1)) for k, way in enumerate(signs)]
        yield rows, right, costs, signs


class TestLeast(unittest.TestCase):
    def test_small(self):
        # Two ways to make up 6: the dear one stays zero.
        self.assertEqual(least(grid([2, 3]), qs(6), qs(5, 6)), ("least", qs(0, 2), qs(2)))
        self.assertEqual(least([], [], []), ("least", [], []))
        self.assertEqual(least([], [], qs(1, 0)), ("least", qs(0, 0), []))
        self.assertEqual(least([], [], qs(-1), signs=[-1]), ("least", qs(0), []))
        self.assertEqual(least([], [], qs(0), signs=[0]), ("least", qs(0), []))

    def test_endless(self):
        for costs, signs in [(qs(-1), None), (qs(-1), [1]), (qs(1), [-1]), (qs(1), [0]), (qs(-1), [0])]:
            answer = least([], [], costs, signs=signs)
            self.assertEqual(answer[0], "endless")
            check_least(self, [], [], costs, [1] if signs is None else signs, answer)
            self.assertIs(is_least([], [], costs, answer, signs=signs), True)

    def test_none(self):
        for rows, right, signs in [
            ([[]], qs(1), []), ([[]], qs(-1), []), (grid([0]), qs(2), [0]), (grid([1]), qs(-1), [1]),
            (grid([1]), qs(1), [-1]), (grid([1, 1], [1, 1]), qs(1, 2), [0, 0]),
            (grid([1, 0, 1], [0, 1, 1]), qs(1, -2), [1, 1, 1]),
        ]:
            answer = least(rows, right, qs(*[0 for _ in signs]), signs=signs)
            self.assertEqual(answer[0], "none")
            check_weights(self, rows, right, signs, answer[1])
            answer = signed_solve(rows, right, signs=signs)
            self.assertEqual(answer[0], "none")
            check_weights(self, rows, right, signs, answer[1])

    def test_zero_rows_and_columns(self):
        rows = grid([0, 0, 0], [1, 0, 1], [0, 0, 0], [2, 0, 2])
        answer = least(rows, qs(0, 3, 0, 6), qs(2, 1, 3))
        self.assertEqual(answer[:2], ("least", qs(3, 0, 0)))
        check_least(self, rows, qs(0, 3, 0, 6), qs(2, 1, 3), [1, 1, 1], answer)
        self.assertEqual(least(rows, qs(0, 3, 0, 6), qs(2, -1, 3))[0], "endless")
        self.assertEqual(least(rows, qs(0, 3, 0, 7), qs(2, -1, 3))[0], "none")
        self.assertEqual(least(rows, qs(1, 3, 0, 6), qs(2, 1, 3))[0], "none")

    def test_many(self):
        words = {"least": 0, "none": 0, "endless": 0}
        for rows, right, costs, signs in systems(600, 21):
            before = copy.deepcopy((rows, right, costs, signs))
            answer = least(rows, right, costs, signs=signs)
            check_least(self, rows, right, costs, signs, answer)
            self.assertIs(is_least(rows, right, costs, answer, signs=signs), True)
            words[answer[0]] += 1
            plain = least(rows, right, costs)
            check_least(self, rows, right, costs, [1 for _ in signs], plain)
            self.assertIs(is_least(rows, right, costs, plain), True)
            self.assertEqual((rows, right, costs, signs), before)
        self.assertTrue(min(words.values()) > 40, words)

    def test_signed_solve_many(self):
        words = {"solution": 0, "none": 0}
        for rows, right, _, signs in systems(400, 22):
            before = copy.deepcopy((rows, right, signs))
            answer = signed_solve(rows, right, signs=signs)
            self.assertEqual((rows, right, signs), before)
            self.assertEqual(len(answer), 2)
            words[answer[0]] += 1
            if answer[0] == "solution":
                check_start(self, rows, right, signs, answer[1])
            else:
                check_weights(self, rows, right, signs, answer[1])
            self.assertIs(is_signed_solve(rows, right, answer, signs=signs), True)
            other = least(rows, right, qs(*[0 for _ in signs]), signs=signs)
            self.assertEqual(other[0], "least" if answer[0] == "solution" else "none")
        self.assertTrue(min(words.values()) > 40, words)

    def test_signs_left_out(self):
        rows, right, costs = grid([1, -1]), qs(-2), qs(1, 1)
        self.assertEqual(least(rows, right, costs), ("least", qs(0, 2), qs(-1)))
        self.assertEqual(least(rows, right, costs, signs=None), least(rows, right, costs))
        answer = least(rows, right, costs, signs=[1, 1])
        check_least(self, rows, right, costs, [1, 1], answer)
        self.assertEqual(least(rows, right, costs, signs=[1, -1])[0], "none")


class TestNoCircles(unittest.TestCase):
    """Systems in which many choices cost the same."""

    def test_known_circles(self):
        # With the usual choices, these famous systems come back to where they were.
        beale = [
            [q(1), q(0), q(0), q(1, 4), q(-60), q(-1, 25), q(9)],
            [q(0), q(1), q(0), q(1, 2), q(-90), q(-1, 50), q(3)],
            [q(0), q(0), q(1), q(0), q(0), q(1), q(0)],
        ]
        costs = [q(0), q(0), q(0), q(-3, 4), q(150), q(-1, 50), q(6)]
        answer = least(beale, qs(0, 0, 1), costs)
        self.assertEqual(answer[0], "least")
        self.assertEqual(product(costs, answer[1]), Fraction(-1, 20))
        check_least(self, beale, qs(0, 0, 1), costs, [1] * 7, answer)
        chvatal = [
            [q(1, 2), q(-11, 2), q(-5, 2), q(9), q(1), q(0), q(0)],
            [q(1, 2), q(-3, 2), q(-1, 2), q(1), q(0), q(1), q(0)],
            [q(1), q(0), q(0), q(0), q(0), q(0), q(1)],
        ]
        costs = qs(-10, 57, 9, 24, 0, 0, 0)
        answer = least(chvatal, qs(0, 0, 1), costs)
        self.assertEqual(product(costs, answer[1]), -1)
        check_least(self, chvatal, qs(0, 0, 1), costs, [1] * 7, answer)
        hoffman = [
            [q(1), q(0), q(2), q(-3), q(-5), q(6)],
            [q(0), q(1), q(6), q(-5), q(-3), q(2)],
        ]
        for costs in itertools.product((-1, 0, 1), repeat=6):
            answer = least(hoffman, qs(0, 0), qs(*costs))
            check_least(self, hoffman, qs(0, 0), qs(*costs), [1] * 6, answer)

    def test_many_zero_right_sides(self):
        source = random.Random(4)
        for _ in range(60):
            height, width = source.randint(2, 6), source.randint(6, 12)
            rows = [qs(*[source.randint(-1, 1) for _ in range(width)]) for _ in range(height)]
            rows.append(qs(*[1 for _ in range(width)]))
            right = qs(*[0 for _ in range(height)], 1)
            costs = qs(*[source.randint(-1, 1) for _ in range(width)])
            answer = least(rows, right, costs)
            check_least(self, rows, right, costs, [1] * width, answer)

    def test_matching(self):
        # Each of ten people does one of ten tasks: nearly every choice gains nothing.
        size = 7
        rows = [qs(*[one == k for one in range(size) for _ in range(size)]) for k in range(size)]
        rows += [qs(*[other == k for _ in range(size) for other in range(size)]) for k in range(size)]
        costs = qs(*[(3 * one + 5 * other) % 7 for one in range(size) for other in range(size)])
        right = qs(*[1 for _ in rows])
        answer = least(rows, right, costs)
        check_least(self, rows, right, costs, [1] * size * size, answer)
        self.assertEqual(product(costs, answer[1]), 0)

    def test_120(self):
        source = random.Random(9)
        rows = [qs(*[source.randint(-3, 3) for _ in range(120)]) for _ in range(40)]
        signs = [source.choice([1, -1, 0, 1]) for _ in range(120)]
        values = qs(*[abs(source.randint(-3, 3)) * way for way in signs])
        right = [q(product(row, values)) for row in rows]
        prices = qs(*[source.randint(-3, 3) for _ in rows])
        costs = [q(product(column(rows, k), prices) + way) for k, way in enumerate(signs)]
        answer = least(rows, right, costs, signs=signs)
        self.assertEqual(answer[0], "least")
        check_least(self, rows, right, costs, signs, answer)
        tall = [qs(*[k == j for j in range(120)]) for k in range(120)]
        self.assertEqual(least(tall, qs(*range(120)), qs(*[1] * 120))[:2], ("least", qs(*range(120))))
        self.assertEqual(signed_solve(tall, qs(*range(120)), signs=[1] * 120), ("solution", qs(*range(120))))


class TestJudges(unittest.TestCase):
    def test_least_word(self):
        rows, right, costs = grid([1, 1, 1]), qs(4), qs(1, 1, 2)
        for values in [qs(4, 0, 0), qs(0, 4, 0), qs(1, 3, 0), [q(7, 2), q(1, 2), q(0)]]:
            self.assertIs(is_least(rows, right, costs, ("least", values, qs(1))), True)
        for values in [qs(0, 0, 4), qs(5, -1, 0), qs(4, 1, 0), qs(3, 0, 0), qs(4, 0), qs(4, 0, 0, 0), qs(3, 0, 1)]:
            self.assertIs(is_least(rows, right, costs, ("least", values, qs(1))), False)
        for prices in [qs(0), qs(2), qs(-1), [], qs(1, 0), [q(1, 2)]]:
            self.assertIs(is_least(rows, right, costs, ("least", qs(4, 0, 0), prices)), False)

    def test_reduced_costs(self):
        # Values of zero cost what the right side of zero is worth: only the reduced costs decide.
        for way, good, bad in [(1, [0, -1], [1]), (-1, [0, 1], [-1]), (0, [0], [1, -1])]:
            for price in good:
                self.assertIs(is_least(grid([1]), qs(0), qs(0), ("least", qs(0), qs(price)), signs=[way]), True)
            for price in bad:
                self.assertIs(is_least(grid([1]), qs(0), qs(0), ("least", qs(0), qs(price)), signs=[way]), False)
        # The prices fit, but not to this cost.
        self.assertIs(is_least(grid([1, 1]), qs(2), qs(1, 2), ("least", qs(0, 2), qs(1))), False)
        self.assertIs(is_least(grid([1, 1]), qs(2), qs(1, 2), ("least", qs(2, 0), qs(0))), False)

    def test_none_word(self):
        rows, right = grid([1, 1], [1, 0]), qs(1, 2)
        for weights, due in [(qs(-1, 1), True), (qs(-2, 2), True), (qs(-1, 1, 0), False), (qs(-1), False),
                             (qs(1, 0), False), (qs(0, 1), False), (qs(0, 0), False), (qs(-2, 1), False)]:
            self.assertIs(is_least(rows, right, qs(0, 0), ("none", weights)), due)
            self.assertIs(is_signed_solve(rows, right, ("none", weights), signs=[1, 1]), due)
        for word in ("None", "", "solution", "least", "endless", None, True, ["none"]):
            self.assertIs(is_least(rows, right, qs(0, 0), (word, qs(-1, 1))), False)
            self.assertIs(is_signed_solve(rows, right, (word, qs(-1, 1)), signs=[1, 1]), False)
        for way, weight, due in [(1, 1, False), (1, -1, True), (-1, 1, False), (-1, -1, False), (0, -1, False)]:
            answer = ("none", qs(weight))
            self.assertIs(is_signed_solve(grid([1]), qs(-1), answer, signs=[way]), due)
            self.assertIs(is_least(grid([1]), qs(-1), qs(0), answer, signs=[way]), due)
        for way, weight, due in [(-1, 1, True), (-1, -1, False), (1, 1, False), (0, 1, False)]:
            self.assertIs(is_signed_solve(grid([1]), qs(1), ("none", qs(weight)), signs=[way]), due)
        # Weights that add the right side up to zero refuse nothing.
        self.assertIs(is_signed_solve(grid([0]), qs(0), ("none", qs(1)), signs=[0]), False)
        self.assertIs(is_signed_solve(grid([0]), qs(5), ("none", qs(1)), signs=[0]), True)
        self.assertIs(is_signed_solve(grid([0]), qs(5), ("none", qs(-1)), signs=[0]), False)

    def test_endless_word(self):
        rows, right, costs = grid([1, -1]), qs(1), qs(1, -2)
        for values in (qs(1, 0), qs(3, 2)):
            self.assertIs(is_least(rows, right, costs, ("endless", values, qs(1, 1))), True)
            self.assertIs(is_least(rows, right, costs, ("endless", values, [q(1, 2), q(1, 2)])), True)
            for ray in (qs(-1, -1), qs(0, 0), qs(1, 0), qs(1, 1, 0), qs(1), qs(2, 1)):
                self.assertIs(is_least(rows, right, costs, ("endless", values, ray)), False)
        for word in ("Endless", "", "least", "none", None, True, ["endless"]):
            self.assertIs(is_least(rows, right, costs, (word, qs(1, 0), qs(1, 1))), False)
        for values in (qs(0, -1), qs(1, 1), qs(1), qs(1, 0, 0)):
            self.assertIs(is_least(rows, right, costs, ("endless", values, qs(1, 1))), False)
        # A ray that costs nothing.
        self.assertIs(is_least(rows, right, qs(1, -1), ("endless", qs(1, 0), qs(1, 1))), False)
        self.assertIs(is_least(rows, right, qs(1, -2), ("endless", qs(1, 0), qs(-1, -1)), signs=[0, -1]), False)
        self.assertIs(is_least(rows, right, qs(1, 1), ("endless", qs(1, 0), qs(-1, -1)), signs=[0, -1]), True)
        self.assertIs(is_least(rows, right, qs(1, 1), ("endless", qs(1, 0), qs(-1, -1)), signs=[1, -1]), False)

    def test_solution_word(self):
        for signs, values, due in [
            ([1, 1], qs(1, 2), True), ([1, 1], qs(3, 0), True), ([1, 1], qs(4, -1), False), ([1, -1], qs(4, -1), True),
            ([1, 0], qs(4, -1), True), ([1, -1], qs(1, 2), False), ([1, 1], qs(1, 1), False), ([1, 1], qs(3), False),
            ([0, 0], qs(3, 0, 0), False), ([-1, 1], qs(-1, 4), True), ([-1, 1], qs(1, 2), False),
        ]:
            self.assertIs(is_signed_solve(grid([1, 1]), qs(3), ("solution", values), signs=signs), due)

    def test_other_values(self):
        rows, right, costs = grid([1, 1]), qs(4), qs(1, 2)
        values, prices = qs(4, 0), qs(1)
        self.assertIs(is_least(rows, right, costs, ("least", values, prices)), True)
        for answer in [
            None, True, 1, "least", (), ("least",), ("least", values), ["least", values, prices],
            ("least", tuple(values), prices), ("least", values, tuple(prices)), ("least", values, prices, prices),
            ("none", values), ("none", values, prices), ("endless", values, values), ("endless", values),
            (["least"], values, prices), (1, values, prices), ("solution", values), ("least", None, prices),
            ("least", values, None), {}, ("least", {}, []), (("least", values, prices),), WrongKind("rows"),
            ("none", None), ("none", tuple(prices)), ("lEast", values, prices),
        ]:
            self.assertIs(is_least(rows, right, costs, answer), False)
        for value in NO_RATIOS:
            self.assertIs(is_least(rows, right, costs, ("least", [q(4), value], prices)), False)
            self.assertIs(is_least(rows, right, costs, ("least", values, [value])), False)
            self.assertIs(is_least(rows, right, costs, ("none", [value])), False)
            self.assertIs(is_least(rows, right, costs, ("endless", values, [q(0), value])), False)
            self.assertIs(is_signed_solve(rows, right, ("solution", [q(4), value]), signs=[1, 1]), False)
        for answer in [
            None, (), ("solution",), ("solution", tuple(values)), ["solution", values], ("solution", values, values),
            ("least", values), ("least", values, prices), "solution", ("none", None), (None, values), (values,),
        ]:
            self.assertIs(is_signed_solve(rows, right, answer, signs=[1, 1]), False)
        self.assertIs(is_signed_solve(rows, right, ("solution", values), signs=[1, 1]), True)


class TestErrors(unittest.TestCase):
    def calls(self):
        return [
            lambda rows, right, costs, signs: least(rows, right, costs, signs=signs),
            lambda rows, right, costs, signs: is_least(rows, right, costs, None, signs=signs),
            lambda rows, right, costs, signs: least(signs=signs, costs=costs, right=right, rows=rows),
        ]

    def signed_calls(self):
        return [
            lambda rows, right, signs: signed_solve(rows, right, signs=signs),
            lambda rows, right, signs: is_signed_solve(rows, right, 0, signs=signs),
            lambda rows, right, signs: is_signed_solve(signs=signs, answer=0, right=right, rows=rows),
        ]

    def test_wrong_kinds(self):
        no_rows = [None, (), [q(1)], [tuple(qs(1))], [[1]], "ab", [qs(1), [(2, 2)]], [[q(1), True]]]
        no_lists = [None, q(1), tuple(qs(1)), [1], [True], [None], "a", {}]
        no_signs = [(1,), [True], [2], [-2], ["1"], [None], [q(1)], "1", 1, [1, 1, False], {}, True]
        for call in self.calls():
            for rows in no_rows:
                check_error(self, WrongKind, {"argument": "rows"}, call, rows, None, None, 3)
            for right in no_lists:
                check_error(self, WrongKind, {"argument": "right"}, call, grid([1]), right, None, 3)
            for costs in no_lists:
                check_error(self, WrongKind, {"argument": "costs"}, call, grid([1, 2], [3]), [], costs, 3)
            for signs in no_signs:
                check_error(self, WrongKind, {"argument": "signs"}, call, grid([1, 2], [3]), [], [], signs)
        for call in self.signed_calls():
            for rows in no_rows:
                check_error(self, WrongKind, {"argument": "rows"}, call, rows, None, 3)
            for right in no_lists:
                check_error(self, WrongKind, {"argument": "right"}, call, grid([1]), right, 3)
            for signs in no_signs + [None]:
                check_error(self, WrongKind, {"argument": "signs"}, call, grid([1, 2], [3]), [], signs)

    def test_bounds(self):
        ones = [1] * 121
        wide = [qs(*ones)]
        for call in self.calls():
            check_error(self, OutOfBounds, {"argument": "rows"}, call, grid([1, 2]), [], qs(1), [])
            check_error(self, OutOfBounds, {"argument": "rows"}, call, grid([1], [1, 2]), [], qs(1), [])
            check_error(self, OutOfBounds, {"argument": "rows"}, call, [[]] * 121, [], [], [1])
            check_error(self, OutOfBounds, {"argument": "right"}, call, wide, [], qs(*ones), [])
            check_error(self, OutOfBounds, {"argument": "right"}, call, [], qs(1), qs(*ones), [])
            check_error(self, OutOfBounds, {"argument": "costs"}, call, wide, qs(1), qs(*ones), [])
            check_error(self, OutOfBounds, {"argument": "costs"}, call, [], [], qs(*ones), ones)
            check_error(self, OutOfBounds, {"argument": "costs"}, call, [], [], qs(*ones), None)
            check_error(self, OutOfBounds, {"argument": "signs"}, call, [], [], qs(1), [])
            check_error(self, OutOfBounds, {"argument": "signs"}, call, [], [], qs(1), [1, 1])
            check_error(self, OutOfBounds, {"argument": "signs"}, call, [], [], [], ones)
        for call in self.signed_calls():
            check_error(self, OutOfBounds, {"argument": "rows"}, call, grid([1, 2]), [], [1])
            check_error(self, OutOfBounds, {"argument": "rows"}, call, [[]] * 121, [], [])
            check_error(self, OutOfBounds, {"argument": "right"}, call, wide, [], ones)
            check_error(self, OutOfBounds, {"argument": "right"}, call, [], qs(1), ones)
            check_error(self, OutOfBounds, {"argument": "signs"}, call, wide, qs(1), ones)
            check_error(self, OutOfBounds, {"argument": "signs"}, call, [], [], ones)

    def test_just_inside(self):
        zeros = qs(*[0] * 120)
        self.assertEqual(least([zeros] * 120, zeros, zeros)[0], "least")
        self.assertEqual(signed_solve([zeros] * 120, zeros, signs=[0] * 120), ("solution", zeros))
        self.assertEqual(least([[]] * 120, zeros, []), ("least", [], zeros))


class TestCopies(unittest.TestCase):
    def test_fresh(self):
        check_fresh(self, lambda: least(grid([1, 1]), qs(4), qs(1, 2)))
        check_fresh(self, lambda: least(grid([1, -1]), qs(4), qs(1, -2)))
        check_fresh(self, lambda: least(grid([1, 1]), qs(-4), qs(1, 2)))
        check_fresh(self, lambda: least(grid([1, 1]), qs(-4), qs(1, 2), signs=[0, 1]))
        check_fresh(self, lambda: signed_solve(grid([1, 1]), qs(4), signs=[1, 0]))
        check_fresh(self, lambda: signed_solve(grid([1, 1]), qs(-4), signs=[1, 1]))
