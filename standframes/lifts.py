"""Lifts: flat frames whose faces are raised into planes."""

from standframes.checks import joint_names, need_frame, need_point, need_pulls
from standframes.covers import bar_sides, side_values, walk_runs
from standframes.errors import NotLift, NotOwnStress, OutOfBounds, WrongKind
from standframes.exact import UNIT, minus, opposite, products
from standframes.faces import flat_faces, need_cover, need_flat, need_walks, outer_of
from standframes.forces import is_own_stress
from standframes.points import cross_sign, difference, dot_product, factor_along, left_turn, stretched
from standframes.ratios import is_ratio


def _is_plane(value):
    return isinstance(value, tuple) and len(value) == 3 and all([is_ratio(item) for item in value])


def _is_planes(value):
    return isinstance(value, list) and all([_is_plane(item) for item in value])


def _need_planes(planes):
    if not _is_planes(planes):
        raise WrongKind("planes")


def _height_of(plane, place):
    x, y = place
    return products(list(plane), [x, y, UNIT])


def _joint_heights(frame, walks, planes):
    """For each joint, the heights of the planes of the walks through it at its place."""
    return [
        [_height_of(plane, (x, y)) for walk, plane in zip(walks, planes) if name in walk] for name, x, y in frame.joints
    ]


def _is_lift_of(frame, walks, planes):
    """True if the planes, one for each walk of a cover, are a lift."""
    return all([found.count(found[0]) == len(found) for found in _joint_heights(frame, walks, planes)])


def _check_lifted(frame, walks, planes):
    need_frame(frame)
    need_walks(walks)
    _need_planes(planes)
    if len(planes) != len(walks):
        raise OutOfBounds("planes")
    need_cover(frame, walks)
    if not _is_lift_of(frame, walks, planes):
        raise NotLift()


def _plane_step(frame, bar, pull):
    """The plane of the left walk minus that of the right walk, if the bar has this lift pull."""
    one, _ = frame.ends(bar)
    lean = stretched(left_turn(frame.span(bar)), pull)
    return (lean[0], lean[1], opposite(dot_product(lean, frame.place(one))))


def lift(frame, walks, pulls):
    """The lift with these lift pulls whose first plane is zero everywhere."""
    need_frame(frame)
    need_walks(walks)
    need_pulls(frame, pulls, "pulls")
    need_cover(frame, walks)
    if not is_own_stress(frame, pulls):
        raise NotOwnStress()
    steps = [_plane_step(frame, bar, pull) for bar, pull in pulls]
    return side_values(bar_sides(frame, walks), steps, len(walks))


def is_lift(frame, walks, value):
    """True if the value is a lift, with any first plane."""
    need_frame(frame)
    need_walks(walks)
    need_cover(frame, walks)
    return _is_planes(value) and len(value) == len(walks) and _is_lift_of(frame, walks, value)


def lift_pulls(frame, walks, planes):
    """The pulls of a lift."""
    _check_lifted(frame, walks, planes)
    pulls = []
    for (bar, _, _, _), (left, right) in zip(frame.bars, bar_sides(frame, walks)):
        lean = difference(planes[left][:2], planes[right][:2])
        pulls.append((bar, factor_along(lean, left_turn(frame.span(bar)))))
    return pulls


def heights(frame, walks, planes):
    """The height of each joint in a lift."""
    _check_lifted(frame, walks, planes)
    found = _joint_heights(frame, walks, planes)
    return [(name, levels[0]) for name, levels in zip(joint_names(frame), found)]


def plane_height(plane, point):
    """The height of the plane at the point."""
    if not _is_plane(plane):
        raise WrongKind("plane")
    need_point(point, "point")
    return _height_of(plane, point)


def bowl(frame, planes):
    """True if the planes of the faces, the outer face aside, are nowhere above the joints."""
    need_frame(frame)
    _need_planes(planes)
    need_flat(frame)
    walks = flat_faces(frame)
    if len(planes) != len(walks) or not _is_lift_of(frame, walks, planes):
        raise NotLift()
    outer = outer_of(frame, walks)
    levels = [found[0] for found in _joint_heights(frame, walks, planes)]
    inner = [plane for at, plane in enumerate(planes) if at != outer]
    return all([
        minus(level, _height_of(plane, (x, y)))[0] >= 0
        for plane in inner for (_, x, y), level in zip(frame.joints, levels)
    ])


def convex_outside(frame):
    """True if the outer face goes around a convex corner, or straight on, at each of its joints."""
    need_frame(frame)
    need_flat(frame)
    walks = flat_faces(frame)
    walk = walks[outer_of(frame, walks)]
    if len(walk) < 3 or any([walk.count(name) > 1 for name in walk]):
        return False
    spans = [difference(frame.place(end), frame.place(start)) for start, end in walk_runs(walk)]
    return all([cross_sign(before, after) <= 0 for before, after in zip(spans, spans[1:] + spans[:1])])
