"""Geometry of points that are known to be points."""

from standframes.exact import minus, opposite, over, plus, sign_of, times
from standframes.ratios import is_ratio

ORIGIN = ((0, 1), (0, 1))


def is_point(value):
    """True if the value is a point, otherwise False."""
    return isinstance(value, tuple) and len(value) == 2 and is_ratio(value[0]) and is_ratio(value[1])


def is_direction(value):
    """True if the value is a point other than the zero point, otherwise False."""
    return is_point(value) and value != ORIGIN


def sum_point(one, other):
    return (plus(one[0], other[0]), plus(one[1], other[1]))


def difference(one, other):
    return (minus(one[0], other[0]), minus(one[1], other[1]))


def stretched(point, factor):
    return (times(point[0], factor), times(point[1], factor))


def dot_product(one, other):
    return plus(times(one[0], other[0]), times(one[1], other[1]))


def cross_product(one, other):
    return minus(times(one[0], other[1]), times(one[1], other[0]))


def cross_sign(one, other):
    return sign_of(cross_product(one, other))


def dot_sign(one, other):
    return sign_of(dot_product(one, other))


def left_turn(point):
    return (opposite(point[1]), point[0])


def squared_length(point):
    return dot_product(point, point)


def factor_along(point, direction):
    """The factor by which the direction is multiplied to give the point, which is in line with it."""
    at = 0 if direction[0][0] != 0 else 1
    return over(point[at], direction[at])


def mapped_point(point, matrix):
    """The image of the point under the matrix, a tuple of four ratios."""
    a, b, c, d = matrix
    return (dot_product((a, b), point), dot_product((c, d), point))
