"""Places for the joints of a frame, one after the other, in which its bars have no own stress."""

from standframes.forces import own_stresses
from standframes.frames import Frame
from standframes.points import cross_sign, difference


def _spot(number):
    """The point of this number: all points of integers that are not negative, from the zero point outwards."""
    edge = 0
    rest = number
    while rest > 2 * edge:
        rest -= 2 * edge + 1
        edge += 1
    if rest <= edge:
        return ((edge, 1), (rest, 1))
    return ((rest - edge - 1, 1), (edge, 1))


def _lines_up(points, spot):
    """True if the spot is one of the points, or on a line through two of them."""
    if spot in points:
        return True
    ways = [difference(point, spot) for point in points]
    return any([cross_sign(one, other) == 0 for at, one in enumerate(ways) for other in ways[at + 1:]])


def _has_stress(places, pairs):
    """True if bars between these pairs have an own stress other than zero."""
    joints = [(name, x, y) for name, (x, y) in places.items()]
    bars = [(f"b{at}", one, other, "rod") for at, (one, other) in enumerate(pairs)]
    return own_stresses(Frame(joints, bars)) != []


def free_spot(places, joint, pairs):
    """A place for the joint beside the others, off all lines through two of them, without own stress in the pairs.

    If the step that set the joint is one of building steps, there is one: the places to avoid, the zeros of some
    polynomials that are not zero everywhere, are only few of the points that are tried.
    """
    points = list(places.values())
    number = 0
    while True:
        spot = _spot(number)
        if not _lines_up(points, spot):
            tried = {name: place for name, place in places.items()}
            tried[joint] = spot
            if not _has_stress(tried, [pair for pair in pairs if pair[0] in tried and pair[1] in tried]):
                return spot
        number += 1
