"""Checks of arguments that belong to a frame."""

from standframes.errors import UnknownName, WrongKind
from standframes.frames import Frame, is_name, need_each_once
from standframes.points import ORIGIN, cross_product, dot_product, is_point
from standframes.ratios import is_ratio


def need_frame(frame):
    if not isinstance(frame, Frame):
        raise WrongKind("frame")


def is_names(value):
    """True if the value is a list of names."""
    return isinstance(value, list) and all([is_name(item) for item in value])


def need_names(value, argument):
    if not is_names(value):
        raise WrongKind(argument)


def need_point(value, argument):
    if not is_point(value):
        raise WrongKind(argument)


def joint_names(frame):
    return [name for name, _, _ in frame.joints]


def bar_names(frame):
    return [name for name, _, _, _ in frame.bars]


def need_joints_there(frame, names):
    """Raises UnknownName for the first of the names that is no joint of the frame."""
    for name in names:
        if name not in frame:
            raise UnknownName(name)


def check_group(frame, joints):
    """The checks of a function that is passed nothing but a frame and a list of its joints."""
    need_frame(frame)
    need_names(joints, "joints")
    need_each_once(joints)
    need_joints_there(frame, joints)


def need_bar_there(frame, bar):
    if bar not in bar_names(frame):
        raise UnknownName(bar)


def _is_row(item, name, size):
    if not isinstance(item, tuple) or len(item) != size + 1:
        return False
    return item[0] == name and all([is_ratio(part) for part in item[1:]])


def are_rows(value, names, size):
    """True if the value is a list of a tuple for each name in order: the name and this many ratios."""
    if not isinstance(value, list) or len(value) != len(names):
        return False
    return all([_is_row(item, name, size) for item, name in zip(value, names)])


def is_pulls(frame, value):
    """True if the value has the form of pulls for the frame."""
    return are_rows(value, bar_names(frame), 1)


def is_velocities(frame, value):
    """True if the value has the form of velocities, or of places, for the frame."""
    return are_rows(value, joint_names(frame), 2)


def is_reactions(frame, value):
    """True if the value has the form of reactions for the frame."""
    grounds = frame.grounds
    if not are_rows(value, [name for name, _ in grounds], 2):
        return False
    return all([
        across == "fixed" or dot_product((x, y), across)[0] == 0
        for (_, x, y), (_, across) in zip(value, grounds)
    ])


def need_pulls(frame, value, argument):
    if not is_pulls(frame, value):
        raise WrongKind(argument)


def need_velocities(frame, value, argument):
    if not is_velocities(frame, value):
        raise WrongKind(argument)


def keeps_ground(across, velocity):
    """True if a joint with this velocity stays in its ground."""
    if across == "fixed":
        return velocity == ORIGIN
    return cross_product(velocity, across)[0] == 0
