"""Flat frames, their faces, and rings of walks around joints."""

from standframes.checks import bar_names, is_names, need_frame, need_joints_there, need_names
from standframes.covers import (
    around, covers, is_connected, left_walks, neighbours, next_neighbours, runs_of, walk_runs,
)
from standframes.errors import NotCover, NotFlat, WrongKind
from standframes.exact import sign_of, sum_of
from standframes.frames import need_name
from standframes.meeting import bars_meet
from standframes.points import cross_product, cross_sign, difference, dot_sign


def first_crossing(frame):
    """The first pair of bars that meet, or None."""
    bars = bar_names(frame)
    for at, first in enumerate(bars):
        for second in bars[at + 1:]:
            if bars_meet(frame, first, second):
                return (first, second)
    return None


def crossing(frame):
    """The pair of bars that meet, with the earliest first one and then the earliest second one, or None."""
    need_frame(frame)
    return first_crossing(frame)


def is_flat(frame):
    """True if the frame is connected, has a bar, and no two bars meet."""
    need_frame(frame)
    return is_connected(frame) and len(frame.bars) > 0 and first_crossing(frame) is None


def need_flat(frame):
    if not is_flat(frame):
        raise NotFlat()


def _quarter(start, way):
    """How far clockwise from start the direction is: less than half a turn, half a turn, more, or a whole one."""
    turn = cross_sign(start, way)
    if turn != 0:
        return 0 if turn < 0 else 2
    return 1 if dot_sign(start, way) < 0 else 3


def _comes_before(start, way, other_way):
    """True if, turning clockwise from start, the first direction is met before the other one."""
    one = _quarter(start, way)
    other = _quarter(start, other_way)
    return one < other or (one == other and cross_sign(way, other_way) < 0)


def _clockwise_after(frame, joint, before):
    """The neighbour that is met first when turning clockwise around the joint from the neighbour before."""
    place = frame.place(joint)
    start = difference(frame.place(before), place)
    best = before
    for name in neighbours(frame, joint):
        way = difference(frame.place(name), place)
        if _comes_before(start, way, difference(frame.place(best), place)):
            best = name
    return best


def flat_faces(frame):
    """The faces of a frame that is known to be flat."""
    walks = []
    gone = {}
    for first in runs_of(frame):
        walk = []
        run = first
        while run not in gone:
            gone[run] = True
            walk.append(run[0])
            run = (run[1], _clockwise_after(frame, run[1], run[0]))
        if walk:
            walks.append(walk)
    return walks


def faces(frame):
    """The faces of a flat frame, each a walk with its region on the left."""
    need_flat(frame)
    return flat_faces(frame)


def is_walks(value):
    """True if the value is a list of lists of names."""
    return isinstance(value, list) and all([is_names(walk) for walk in value])


def need_walks(walks):
    if not is_walks(walks):
        raise WrongKind("walks")


def need_cover(frame, walks):
    if not covers(frame, walks):
        raise NotCover()


def is_cover(frame, value):
    """True if the value is a list of lists of names that is a cover of the frame."""
    need_frame(frame)
    return is_walks(value) and covers(frame, value)


def walk_area(frame, walk):
    """The double area of a list of joints of the frame."""
    return sum_of([cross_product(frame.place(start), frame.place(end)) for start, end in walk_runs(walk)])


def double_area(frame, walk):
    """The sum over the runs of the walk of the cross of the places where they start and end."""
    need_frame(frame)
    need_names(walk, "walk")
    need_joints_there(frame, walk)
    return walk_area(frame, walk)


def outer_of(frame, walks):
    """The index of the outer face among the faces of the frame."""
    return [at for at, walk in enumerate(walks) if sign_of(walk_area(frame, walk)) <= 0][0]


def outer_face(frame):
    """The index of the one face whose double area is not positive."""
    need_flat(frame)
    return outer_of(frame, flat_faces(frame))


def ring_of(frame, walks, joint):
    """The ring of a joint in a cover."""
    left = left_walks(walks)
    order = around(next_neighbours(walks), joint, neighbours(frame, joint)[0])
    return [left[(joint, name)] for name in order]


def ring(frame, walks, joint):
    """The indexes of the walks around the joint, one for each bar at it."""
    need_frame(frame)
    need_walks(walks)
    need_name(joint, "joint")
    need_joints_there(frame, [joint])
    need_cover(frame, walks)
    return ring_of(frame, walks, joint)
