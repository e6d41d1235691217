"""Arithmetic of ratios that are known to be ratios.

The functions of ratios.py check what they are passed. Everything inside the program uses these.
"""

from math import gcd, isqrt

NOUGHT = (0, 1)
UNIT = (1, 1)


def lowest(numerator, denominator):
    """The ratio of two integers, of which the second is not 0."""
    shared = gcd(numerator, denominator)
    if denominator < 0:
        shared = -shared
    return (numerator // shared, denominator // shared)


def plus(one, other):
    return lowest(one[0] * other[1] + other[0] * one[1], one[1] * other[1])


def minus(one, other):
    return lowest(one[0] * other[1] - other[0] * one[1], one[1] * other[1])


def times(one, other):
    return lowest(one[0] * other[0], one[1] * other[1])


def over(one, other):
    return lowest(one[0] * other[1], one[1] * other[0])


def opposite(one):
    return (-one[0], one[1])


def number_sign(number):
    if number > 0:
        return 1
    return -1 if number < 0 else 0


def sign_of(one):
    return number_sign(one[0])


def sum_of(values):
    """The sum of a list of ratios."""
    rest = list(values)
    # Neighbours are added first, then their sums, and so on: so the numbers stay short for as long as they can.
    while len(rest) > 1:
        single = rest[-1:] if len(rest) & 1 else []
        rest = [plus(one, other) for one, other in zip(rest[::2], rest[1::2])] + single
    return rest[0] if rest else NOUGHT


def products(one, other):
    """The sum of the products of two lists of ratios of one length."""
    return sum_of([times(x, y) for x, y in zip(one, other) if x[0] != 0 and y[0] != 0])


def whole_root(number):
    """The integer whose square is the number, which is not negative, or None."""
    guess = isqrt(number)
    return guess if guess * guess == number else None


def root_of(one):
    """The root of a ratio, or None."""
    if one[0] < 0:
        return None
    # In lowest terms, a square has a square above and a square below.
    above = whole_root(one[0])
    below = whole_root(one[1])
    return None if above is None or below is None else (above, below)


def root_sum_sign(plain, factor, under):
    """The sign of plain + factor * (root of under), where under is not negative."""
    lean = sign_of(factor) * sign_of(under)
    straight = sign_of(plain)
    if straight * lean >= 0:
        return straight if straight != 0 else lean
    squares = minus(times(plain, plain), times(times(factor, factor), under))
    return straight * sign_of(squares)
