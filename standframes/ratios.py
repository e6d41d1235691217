"""Ratios: exact numbers, each a tuple of two integers."""

from math import gcd

from standframes.errors import NegativeRoot, WrongKind, ZeroDivisor
from standframes.exact import (
    lowest, minus, opposite, over, plus, root_of, root_sum_sign, sign_of, sum_of, times,
)


def is_integer(value):
    """True if the value is an integer; True and False are none."""
    return isinstance(value, int) and not isinstance(value, bool)


def is_ratio(value):
    """True if the value is a ratio, otherwise False."""
    if not isinstance(value, tuple) or len(value) != 2:
        return False
    numerator, denominator = value
    if not is_integer(numerator) or not is_integer(denominator):
        return False
    return denominator >= 1 and gcd(numerator, denominator) == 1


def is_ratio_list(value):
    """True if the value is a list of ratios, otherwise False."""
    return isinstance(value, list) and all([is_ratio(item) for item in value])


def need_ratio(value, argument):
    if not is_ratio(value):
        raise WrongKind(argument)


def need_ratio_list(value, argument):
    if not is_ratio_list(value):
        raise WrongKind(argument)


def _need_two(one, other):
    need_ratio(one, "one")
    need_ratio(other, "other")


def ratio(numerator, denominator=1):
    """The ratio of two integers."""
    if not is_integer(numerator):
        raise WrongKind("numerator")
    if not is_integer(denominator):
        raise WrongKind("denominator")
    if denominator == 0:
        raise ZeroDivisor()
    return lowest(numerator, denominator)


def add(one, other):
    _need_two(one, other)
    return plus(one, other)


def subtract(one, other):
    _need_two(one, other)
    return minus(one, other)


def multiply(one, other):
    _need_two(one, other)
    return times(one, other)


def divide(one, other):
    _need_two(one, other)
    if other[0] == 0:
        raise ZeroDivisor()
    return over(one, other)


def negate(one):
    """The ratio with the opposite sign."""
    need_ratio(one, "one")
    return opposite(one)


def sign(one):
    """1, 0 or -1."""
    need_ratio(one, "one")
    return sign_of(one)


def compare(one, other):
    """The sign of one minus other."""
    _need_two(one, other)
    return sign_of(minus(one, other))


def total(values):
    """The sum of a list of ratios."""
    need_ratio_list(values, "values")
    return sum_of(values)


def root(one):
    """The ratio that is not negative and whose square is this one, or None."""
    need_ratio(one, "one")
    return root_of(one)


def root_sign(plain, factor, under):
    """The sign of plain + factor * (root of under)."""
    need_ratio(plain, "plain")
    need_ratio(factor, "factor")
    need_ratio(under, "under")
    if under[0] < 0:
        raise NegativeRoot(under)
    return root_sum_sign(plain, factor, under)
