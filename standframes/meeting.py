"""Whether bars have points in common."""

from standframes.points import cross_sign, difference, dot_sign


def _turn(one, other, place):
    """1 if the place is on the left side of the line from one to other, -1 on the right side, 0 on it."""
    return cross_sign(difference(other, one), difference(place, one))


def _between(one, other, place):
    """True if the place, which is on the line of the segment, belongs to the segment."""
    return dot_sign(difference(one, place), difference(other, place)) <= 0


def _segments_meet(one, other, first, second):
    """True if the segment from one to other has a point in common with the one from first to second."""
    sides = (_turn(one, other, first), _turn(one, other, second))
    turns = (_turn(first, second, one), _turn(first, second, other))
    if sides[0] * sides[1] < 0 and turns[0] * turns[1] < 0:
        return True
    if sides[0] == 0 and _between(one, other, first):
        return True
    if sides[1] == 0 and _between(one, other, second):
        return True
    if turns[0] == 0 and _between(first, second, one):
        return True
    return turns[1] == 0 and _between(first, second, other)


def _same_way(one, other):
    return cross_sign(one, other) == 0 and dot_sign(one, other) > 0


def bars_meet(frame, bar, other_bar):
    """True if two different bars of the frame meet."""
    one, other = frame.ends(bar)
    first, second = frame.ends(other_bar)
    if one in (first, second):
        common = one
    elif other in (first, second):
        common = other
    else:
        return _segments_meet(frame.place(one), frame.place(other), frame.place(first), frame.place(second))
    # From a common end, two bars have a further common point only if they leave it the same way.
    place = frame.place(common)
    far = other if common == one else one
    far_other = second if common == first else first
    return _same_way(difference(frame.place(far), place), difference(frame.place(far_other), place))
