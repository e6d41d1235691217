"""Places of joints: points at given distances, spots with a root, chains of bars."""

from standframes.checks import need_point
from standframes.errors import OutOfBounds, WrongKind
from standframes.exact import UNIT, minus, opposite, over, plus, root_of, root_sum_sign, sum_of, times
from standframes.points import (
    cross_product, difference, dot_product, is_direction, is_point, left_turn, squared_length, stretched, sum_point,
)
from standframes.ratios import is_integer, is_ratio, is_ratio_list, need_ratio

TWO = (2, 1)
MOST_CHAIN = 3


def is_positive(value):
    """True if the value is a ratio that is positive."""
    return is_ratio(value) and value[0] > 0


def _need_positive(value, argument):
    if not is_positive(value):
        raise WrongKind(argument)


def _need_side(side):
    if not is_integer(side) or side not in (1, -1):
        raise WrongKind("side")


def _is_spot(value):
    if not isinstance(value, tuple) or not value:
        return False
    if value[0] == "at":
        return len(value) == 2 and is_point(value[1])
    if value[0] != "root" or len(value) != 4:
        return False
    return is_point(value[1]) and is_point(value[2]) and is_ratio(value[3]) and value[3][0] >= 0


def _need_spot(spot):
    if not _is_spot(spot):
        raise WrongKind("spot")


def _spot_of(base, lean, under):
    """The spot base + lean * (root of under)."""
    found = root_of(under)
    if found is None:
        return ("root", base, lean, under)
    return ("at", sum_point(base, stretched(lean, found)))


def meet_of(one, other, first, second, side):
    """What `meet` returns."""
    way = difference(other, one)
    gap = squared_length(way)
    if gap[0] == 0:
        return ("same",)
    part = over(plus(gap, minus(first, second)), times(TWO, gap))
    under = minus(over(first, gap), times(part, part))
    if under[0] < 0:
        return ("far" if minus(gap, plus(first, second))[0] > 0 else "near", gap)
    return _spot_of(sum_point(one, stretched(way, part)), stretched(left_turn(way), (side, 1)), under)


def meet(one, other, first, second, *, side=1):
    """The point at two squared distances from two points: a spot, or why there is none."""
    need_point(one, "one")
    need_point(other, "other")
    _need_positive(first, "first")
    _need_positive(second, "second")
    _need_side(side)
    return meet_of(one, other, first, second, side)


def meet_line_of(place, direction, centre, squared, side):
    """What `meet_line` returns."""
    size = squared_length(direction)
    part = over(dot_product(difference(centre, place), direction), size)
    base = sum_point(place, stretched(direction, part))
    gap = squared_length(difference(centre, base))
    under = over(minus(squared, gap), size)
    if under[0] < 0:
        return ("far", gap)
    return _spot_of(base, stretched(direction, (side, 1)), under)


def meet_line(place, direction, centre, squared, *, side=1):
    """The point on a line at a squared distance from a point: a spot, or ("far", gap)."""
    need_point(place, "place")
    if not is_direction(direction):
        raise WrongKind("direction")
    need_point(centre, "centre")
    _need_positive(squared, "squared")
    _need_side(side)
    return meet_line_of(place, direction, centre, squared, side)


def _spot_parts(spot):
    """The base, the lean and the ratio under the root of any spot."""
    if spot[0] == "at":
        return (spot[1], ((0, 1), (0, 1)), (0, 1))
    return (spot[1], spot[2], spot[3])


def side_of(spot, one, other):
    """1 if the spot is on the left side of the line from one to other, -1 on the right side, 0 on it."""
    _need_spot(spot)
    need_point(one, "one")
    need_point(other, "other")
    base, lean, under = _spot_parts(spot)
    way = difference(other, one)
    return root_sum_sign(cross_product(way, difference(base, one)), cross_product(way, lean), under)


def distance_sign(spot, centre, squared):
    """The sign of the squared distance of the spot from the centre, minus the given one."""
    _need_spot(spot)
    need_point(centre, "centre")
    _need_positive(squared, "squared")
    base, lean, under = _spot_parts(spot)
    way = difference(base, centre)
    plain = sum_of([squared_length(way), times(squared_length(lean), under), opposite(squared)])
    return root_sum_sign(plain, times(TWO, dot_product(way, lean)), under)


def turned_point(point, centre, tangent):
    """What `turn_point` returns."""
    way = difference(point, centre)
    square = times(tangent, tangent)
    whole = plus(UNIT, square)
    along = stretched(way, over(minus(UNIT, square), whole))
    across = stretched(left_turn(way), over(times(TWO, tangent), whole))
    return sum_point(centre, sum_point(along, across))


def turn_point(point, centre, tangent):
    """The point turned about the centre: the tangent is that of half the angle."""
    need_point(point, "point")
    need_point(centre, "centre")
    need_ratio(tangent, "tangent")
    return turned_point(point, centre, tangent)


def _is_longer(longest, others):
    """True if the root of the first is greater than the sum of the roots of at most three others."""
    one, other, last = others + [(0, 1) for _ in range(len(others), 3)]
    straight = minus(plus(longest, one), plus(other, last))
    if minus(longest, one)[0] < 0 or straight[0] < 0:
        return False
    # Both sides of root - root > root + root are squared, and then what is left.
    pairs = plus(times(longest, one), times(other, last))
    plain = minus(times(straight, straight), times((4, 1), pairs))
    return root_sum_sign(plain, (-8, 1), times(times(longest, one), times(other, last))) > 0


def chain_reach(squares, distance):
    """("reached",) if a chain of bars joins two points, otherwise ("far",) or ("near", index)."""
    if not is_ratio_list(squares) or any([square[0] <= 0 for square in squares]):
        raise WrongKind("squares")
    if not is_ratio(distance) or distance[0] < 0:
        raise WrongKind("distance")
    if not 1 <= len(squares) <= MOST_CHAIN:
        raise OutOfBounds("squares")
    if _is_longer(distance, squares):
        return ("far",)
    for at, square in enumerate(squares):
        if _is_longer(square, squares[:at] + squares[at + 1:] + [distance]):
            return ("near", at)
    return ("reached",)
