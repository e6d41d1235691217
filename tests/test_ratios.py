import random
import unittest
from decimal import Decimal, localcontext
from fractions import Fraction

from helpers import HUGE, NO_RATIOS, check_error, fraction, q, qs
from standframes.errors import NegativeRoot, WrongKind, ZeroDivisor
from standframes.ratios import (
    add, compare, divide, is_ratio, multiply, negate, ratio, root, root_sign, sign, subtract, total,
)

BIG = 10 ** 999 + 3
SOME = [
    q(0), q(1), q(-1), q(2), q(-3), q(1, 2), q(-1, 2), q(2, 3), q(-5, 7), q(6, 35), q(-9, 10), q(BIG), q(-1, BIG),
    q(BIG, HUGE), q(-HUGE, BIG), q(10 ** 999, 3 ** 2000),
]


class TestRatio(unittest.TestCase):
    def test_is_ratio(self):
        for value in SOME:
            self.assertIs(is_ratio(value), True)
        for value in NO_RATIOS:
            self.assertIs(is_ratio(value), False, value)
        self.assertIs(is_ratio((2 * BIG, 2 * HUGE)), False)
        self.assertIs(is_ratio((0, HUGE)), False)
        self.assertIs(is_ratio(ZeroDivisor((1, 1))), False)

    def test_ratio(self):
        self.assertEqual(ratio(4, -6), (-2, 3))
        self.assertEqual(ratio(-4, -6), (2, 3))
        self.assertEqual(ratio(4, 6), (2, 3))
        self.assertEqual(ratio(-4, 6), (-2, 3))
        self.assertEqual(ratio(0, -5), (0, 1))
        self.assertEqual(ratio(0, 5), (0, 1))
        self.assertEqual(ratio(7), (7, 1))
        self.assertEqual(ratio(-7), (-7, 1))
        self.assertEqual(ratio(0), (0, 1))
        self.assertEqual(ratio(7, 1), (7, 1))
        self.assertEqual(ratio(7, -1), (-7, 1))
        self.assertEqual(ratio(6 * BIG, -4 * BIG), (-3, 2))
        self.assertEqual(ratio(1, -BIG), (-1, BIG))

    def test_ratio_errors(self):
        for value in [None, True, False, "1", (1, 1), [1], q(1)]:
            check_error(self, WrongKind, {"argument": "numerator"}, ratio, value)
            check_error(self, WrongKind, {"argument": "numerator"}, ratio, value, 0)
            check_error(self, WrongKind, {"argument": "numerator"}, ratio, value, value)
            check_error(self, WrongKind, {"argument": "denominator"}, ratio, 1, value)
        check_error(self, ZeroDivisor, {"subject": None}, ratio, 1, 0)
        check_error(self, ZeroDivisor, {"subject": None}, ratio, 0, 0)


class TestArithmetic(unittest.TestCase):
    def test_against_fractions(self):
        for one in SOME:
            for other in SOME:
                x, y = fraction(one), fraction(other)
                results = [(add, x + y), (subtract, x - y), (multiply, x * y)]
                if y != 0:
                    results.append((divide, x / y))
                for operation, result in results:
                    answer = operation(one, other)
                    self.assertEqual(answer, (result.numerator, result.denominator))
                    self.assertTrue(is_ratio(answer))
                self.assertEqual(compare(one, other), (x > y) - (x < y))

    def test_one_argument(self):
        for one in SOME:
            x = fraction(one)
            self.assertEqual(negate(one), q(-x))
            self.assertEqual(sign(one), (x > 0) - (x < 0))
            self.assertIs(sign(one).__class__, int)
            self.assertIs(compare(one, q(0)).__class__, int)

    def test_divide_by_zero(self):
        for one in SOME:
            check_error(self, ZeroDivisor, {"subject": None}, divide, one, q(0))
        self.assertEqual(divide(q(0), q(-3)), (0, 1))
        self.assertEqual(divide(q(1), q(-3, 2)), (-2, 3))

    def test_wrong_kinds(self):
        for value in NO_RATIOS:
            for call in (add, subtract, multiply, divide, compare):
                check_error(self, WrongKind, {"argument": "one"}, call, value, q(0))
                check_error(self, WrongKind, {"argument": "one"}, call, value, value)
                check_error(self, WrongKind, {"argument": "other"}, call, q(1), value)
            for call in (negate, sign, root):
                check_error(self, WrongKind, {"argument": "one"}, call, value)

    def test_total(self):
        self.assertEqual(total([]), (0, 1))
        self.assertEqual(total([q(-5, 3)]), (-5, 3))
        self.assertEqual(total([q(1, 2), q(1, 3), q(-5, 6)]), (0, 1))
        self.assertEqual(total(SOME), q(sum(fraction(one) for one in SOME)))
        given = qs(1, 2, 3)
        self.assertEqual(total(given), (6, 1))
        self.assertEqual(given, qs(1, 2, 3))

    def test_total_errors(self):
        for value in [None, q(1), tuple(qs(1, 2)), {}, "", 3, True]:
            check_error(self, WrongKind, {"argument": "values"}, total, value)
        for value in NO_RATIOS:
            check_error(self, WrongKind, {"argument": "values"}, total, [q(1), value])


class TestRoots(unittest.TestCase):
    def test_root(self):
        for one in SOME:
            result = root(multiply(one, one))
            self.assertEqual(result, q(abs(fraction(one))))
        self.assertEqual(root(q(4, 9)), (2, 3))
        self.assertEqual(root(q(0)), (0, 1))
        self.assertEqual(root(q(1)), (1, 1))

    def test_no_root(self):
        for one in [q(2), q(8), q(1, 2), q(4, 3), q(3, 4), q(-4), q(-1), q(-1, 4), q(-4, 9), q(50, 2), q(3)]:
            if one != q(25):
                self.assertIsNone(root(one))
        self.assertEqual(root(q(50, 2)), (5, 1))
        side = 10 ** 400 + 19
        for off in (-1, 1):
            self.assertIsNone(root(q(side * side + off)))
            self.assertIsNone(root(q(1, side * side + off)))
            self.assertIsNone(root(q(side * side, 10 ** 800 + off)))
        self.assertEqual(root(q(side * side, 4)), q(side, 2))
        self.assertEqual(root(q(side * side)), q(side))

    def test_root_sign(self):
        self.assertEqual(root_sign((-3, 1), (2, 1), (2, 1)), -1)
        values = [q(-3), q(-2), q(-1, 2), q(0), q(1, 3), q(2), q(3)]
        unders = [q(0), q(1, 4), q(1), q(2), q(9, 4), q(3), q(81)]
        with localcontext() as context:
            context.prec = 60
            for plain in values:
                for factor in values:
                    for under in unders:
                        base = Decimal(under[0]) / Decimal(under[1])
                        result = root_sign(plain, factor, under)
                        near = Decimal(plain[0]) / plain[1] + base.sqrt() * factor[0] / factor[1]
                        due = 0 if abs(near) < Decimal(10) ** -40 else (1 if near > 0 else -1)
                        self.assertEqual(result, due, (plain, factor, under))
                        self.assertIs(result.__class__, int)

    def test_root_sign_near_zero(self):
        side = 10 ** 300 + 7
        for off, due in ((-1, -1), (0, 0), (1, 1)):
            self.assertEqual(root_sign(q(-side), q(1), q(side * side + off)), due)
            self.assertEqual(root_sign(q(side), q(-1), q(side * side + off)), -due)
            self.assertEqual(root_sign(q(-side, 3), q(1, 3), q(side * side + off)), due)
            self.assertEqual(root_sign(q(side, 5), q(-1, 5 * side), q((side * side + off) * side * side)), -due)
        self.assertEqual(root_sign(q(-1, side), q(0), q(2)), -1)
        self.assertEqual(root_sign(q(0), q(-1, side), q(1, side)), -1)
        self.assertEqual(root_sign(q(0), q(-1, side), q(0)), 0)

    def test_root_sign_errors(self):
        for value in NO_RATIOS:
            check_error(self, WrongKind, {"argument": "plain"}, root_sign, value, q(1), q(-1))
            check_error(self, WrongKind, {"argument": "plain"}, root_sign, value, value, value)
            check_error(self, WrongKind, {"argument": "factor"}, root_sign, q(1), value, q(-1))
            check_error(self, WrongKind, {"argument": "factor"}, root_sign, q(1), value, value)
            check_error(self, WrongKind, {"argument": "under"}, root_sign, q(1), q(1), value)
        for under in (q(-1), q(-1, BIG), q(-BIG)):
            for factor in (q(0), q(1), q(-1)):
                for plain in (q(0), q(5)):
                    check_error(self, NegativeRoot, {"subject": under}, root_sign, plain, factor, under)

    def test_returned_values_of_any_size_may_come_back(self):
        one = q(999999999, 999999998)
        for _ in range(9):
            one = multiply(one, one)
        self.assertGreater(len(bin(one[0])), 4300 * 3)
        self.assertEqual(root(multiply(one, one)), one)
        check_error(self, NegativeRoot, {"subject": negate(one)}, root_sign, one, one, negate(one))

    def test_equal_calls(self):
        for _ in range(3):
            self.assertEqual(add(q(1, 2), q(1, 3)), (5, 6))
            self.assertEqual(root(q(1, 4)), (1, 2))


class TestRandomSums(unittest.TestCase):
    def test_many(self):
        source = random.Random(5)
        for size in range(300):
            numbers = [Fraction(source.randint(-50, 50), source.randint(1, 40)) for _ in range(size // 8)]
            self.assertEqual(total([q(number) for number in numbers]), q(sum(numbers)))
