"""New frames and loads, made from given ones."""

from standframes.checks import (
    check_group, need_bar_there, need_frame, need_joints_there, need_names, need_point, need_velocities,
)
from standframes.errors import FlatMap, OutOfBounds, WrongKind
from standframes.frames import Frame, is_across, is_role, need_each_once, need_name
from standframes.loads import load_of, need_load
from standframes.points import cross_product, mapped_point, sum_point
from standframes.ratios import is_ratio, need_ratio

ZERO = ((0, 1), (0, 1))


def bare(frame):
    """The frame without its grounds."""
    need_frame(frame)
    return Frame(frame.joints, frame.bars)


def part_on(frame, joints):
    """The part of a frame on these joints, which are known to be its joints."""
    return Frame(
        [row for row in frame.joints if row[0] in joints],
        [row for row in frame.bars if row[1] in joints and row[2] in joints],
        grounds=[row for row in frame.grounds if row[0] in joints],
    )


def part(frame, joints):
    """The part of the frame on these joints."""
    check_group(frame, joints)
    return part_on(frame, joints)


def part_load(load, joints):
    """The load with the entries at these joints."""
    need_load(load)
    need_names(joints, "joints")
    need_each_once(joints)
    return load_of([row for row in load.entries if row[0] in joints])


def with_joint(frame, joint, x, y):
    """The frame with a new joint."""
    need_frame(frame)
    need_name(joint, "joint")
    need_ratio(x, "x")
    need_ratio(y, "y")
    if len(frame.joints) >= Frame.MOST_JOINTS:
        raise OutOfBounds("frame")
    # What is left to check, the new frame checks itself; here and below.
    return Frame([*frame.joints, (joint, x, y)], frame.bars, grounds=frame.grounds)


def with_bar(frame, bar, one, other, *, role="rod"):
    """The frame with a new bar."""
    need_frame(frame)
    need_name(bar, "bar")
    need_name(one, "one")
    need_name(other, "other")
    if not is_role(role):
        raise WrongKind("role")
    if len(frame.bars) >= Frame.MOST_BARS:
        raise OutOfBounds("frame")
    return Frame(frame.joints, [*frame.bars, (bar, one, other, role)], grounds=frame.grounds)


def with_ground(frame, joint, across):
    """The frame with this ground at the joint, or with none. Its grounds are in the order of its joints."""
    need_frame(frame)
    need_name(joint, "joint")
    if across is not None and not is_across(across):
        raise WrongKind("across")
    need_joints_there(frame, [joint])
    held = {name: hold for name, hold in frame.grounds}
    held[joint] = across
    grounds = [(name, held[name]) for name, _, _ in frame.joints if held.get(name) is not None]
    return Frame(frame.joints, frame.bars, grounds=grounds)


def without_bar(frame, bar):
    """The frame without this bar."""
    need_frame(frame)
    need_name(bar, "bar")
    need_bar_there(frame, bar)
    return Frame(frame.joints, [row for row in frame.bars if row[0] != bar], grounds=frame.grounds)


def without_joint(frame, joint):
    """The frame without this joint, its bars and its ground."""
    need_frame(frame)
    need_name(joint, "joint")
    need_joints_there(frame, [joint])
    return part_on(frame, [name for name, _, _ in frame.joints if name != joint])


def moved(frame, places):
    """The frame with these places."""
    need_frame(frame)
    need_velocities(frame, places, "places")
    return Frame(places, frame.bars, grounds=frame.grounds)


def _need_matrix(matrix):
    if not isinstance(matrix, tuple) or len(matrix) != 4 or not all([is_ratio(item) for item in matrix]):
        raise WrongKind("matrix")


def _need_way_back(matrix):
    a, b, c, d = matrix
    if cross_product((a, b), (c, d))[0] == 0:
        raise FlatMap()


def _mapped_ground(across, matrix):
    return across if across == "fixed" else mapped_point(across, matrix)


def mapped(frame, matrix, *, shift=ZERO):
    """The frame with each place mapped by the matrix and then shifted."""
    need_frame(frame)
    _need_matrix(matrix)
    need_point(shift, "shift")
    _need_way_back(matrix)
    joints = []
    for name, x, y in frame.joints:
        along, up = sum_point(mapped_point((x, y), matrix), shift)
        joints.append((name, along, up))
    grounds = [(name, _mapped_ground(across, matrix)) for name, across in frame.grounds]
    return Frame(joints, frame.bars, grounds=grounds)


def mapped_load(load, matrix):
    """The load with each force mapped by the matrix."""
    need_load(load)
    _need_matrix(matrix)
    _need_way_back(matrix)
    forces = []
    for name, x, y in load.entries:
        along, up = mapped_point((x, y), matrix)
        forces.append((name, along, up))
    return load_of(forces)
