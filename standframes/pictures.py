"""Pictures of the forces in a frame with a cover, and reciprocal frames."""

from standframes.checks import bar_names, joint_names, need_frame, need_joints_there, need_pulls
from standframes.covers import bar_sides, side_values
from standframes.errors import NoReciprocal, NotOwnStress, NotPicture, OutOfBounds, WrongKind
from standframes.faces import need_cover, need_walks, ring_of
from standframes.forces import is_own_stress
from standframes.frames import Frame, need_name
from standframes.points import cross_sign, difference, factor_along, is_point, stretched

MOST_WALKS = 12


def _is_points(value):
    return isinstance(value, list) and all([is_point(item) for item in value])


def _need_points(points):
    if not _is_points(points):
        raise WrongKind("points")


def _bound_points(points, walks):
    if len(points) != len(walks):
        raise OutOfBounds("points")


def _steps(frame, walks, points):
    """For each bar, the point of its left walk minus the point of its right walk."""
    return [difference(points[left], points[right]) for left, right in bar_sides(frame, walks)]


def _first_unfit(frame, walks, points):
    """The first bar for which the difference of its points is not a multiple of its span, or None."""
    for bar, step in zip(bar_names(frame), _steps(frame, walks, points)):
        if cross_sign(frame.span(bar), step) != 0:
            return bar
    return None


def _need_picture(frame, walks, points):
    bar = _first_unfit(frame, walks, points)
    if bar is not None:
        raise NotPicture(bar)


def _check_stressed(frame, walks, pulls):
    need_cover(frame, walks)
    if not is_own_stress(frame, pulls):
        raise NotOwnStress()


def _picture_of(frame, walks, pulls):
    steps = [stretched(frame.span(bar), pull) for bar, pull in pulls]
    return side_values(bar_sides(frame, walks), steps, len(walks))


def picture(frame, walks, pulls):
    """A point for each walk: for each bar, left minus right is the pull times the span. The first one is zero."""
    need_frame(frame)
    need_walks(walks)
    need_pulls(frame, pulls, "pulls")
    _check_stressed(frame, walks, pulls)
    return _picture_of(frame, walks, pulls)


def is_picture(frame, walks, value):
    """True if the value is a picture, with any first point."""
    need_frame(frame)
    need_walks(walks)
    need_cover(frame, walks)
    return _is_points(value) and len(value) == len(walks) and _first_unfit(frame, walks, value) is None


def picture_pulls(frame, walks, points):
    """The pulls of a picture."""
    need_frame(frame)
    need_walks(walks)
    _need_points(points)
    _bound_points(points, walks)
    need_cover(frame, walks)
    _need_picture(frame, walks, points)
    steps = _steps(frame, walks, points)
    return [(bar, factor_along(step, frame.span(bar))) for bar, step in zip(bar_names(frame), steps)]


def force_polygon(frame, walks, points, joint):
    """The points of the walks around the joint: from each to the one before is the force of a bar on it."""
    need_frame(frame)
    need_walks(walks)
    _need_points(points)
    need_name(joint, "joint")
    _bound_points(points, walks)
    need_joints_there(frame, [joint])
    need_cover(frame, walks)
    _need_picture(frame, walks, points)
    return [points[at] for at in ring_of(frame, walks, joint)]


def _need_reciprocal(sides, pulls):
    seen = {}
    for (left, right), (bar, pull) in zip(sides, pulls):
        pair = (min(left, right), max(left, right))
        if pull[0] == 0 or pair in seen:
            raise NoReciprocal(bar)
        seen[pair] = True


def reciprocal(frame, walks, pulls):
    """(other, other_walks): the frame with a joint for each walk and a walk for each joint."""
    need_frame(frame)
    need_walks(walks)
    need_pulls(frame, pulls, "pulls")
    if len(walks) > MOST_WALKS:
        raise OutOfBounds("walks")
    _check_stressed(frame, walks, pulls)
    sides = bar_sides(frame, walks)
    _need_reciprocal(sides, pulls)
    names = [f"f{at}" for at in range(len(walks))]
    joints = [(name, x, y) for name, (x, y) in zip(names, _picture_of(frame, walks, pulls))]
    bars = [
        (bar, names[right], names[left], "rod") for bar, (left, right) in zip(bar_names(frame), sides)
    ]
    rings = [ring_of(frame, walks, joint) for joint in joint_names(frame)]
    return (Frame(joints, bars), [[names[at] for at in ring] for ring in rings])
