"""Deeds: the steps by which a yard builds a frame and a load."""

from standframes.changes import part_load, with_ground, without_bar, without_joint
from standframes.checks import joint_names, need_bar_there, need_joints_there
from standframes.errors import RepeatedName
from standframes.frames import Frame, is_across, is_name, is_role, need_new_bars
from standframes.loads import Load
from standframes.ratios import is_ratio


def _is_hold(value):
    """True if the value is a ground, or None for no ground."""
    return value is None or is_across(value)


def _is_link(item):
    return isinstance(item, tuple) and len(item) == 3 and is_name(item[0]) and is_name(item[1]) and is_role(item[2])


def _is_links(value):
    return isinstance(value, tuple) and all([_is_link(item) for item in value])


def _has_form(part, form):
    """True if a part of a deed has the form of this name."""
    if form == "name":
        return is_name(part)
    if form == "ratio":
        return is_ratio(part)
    if form == "hold":
        return _is_hold(part)
    return is_role(part) if form == "role" else _is_links(part)


# The forms of what follows the word of a deed.
FORMS = {
    "joint": ("name", "ratio", "ratio", "hold", "links"), "bar": ("name", "name", "name", "role"),
    "ground": ("name", "hold"), "load": ("name", "ratio", "ratio"), "cut": ("name",), "drop": ("name",),
}


def is_deed(value):
    """True if the value is a deed."""
    if not isinstance(value, tuple) or not value or not isinstance(value[0], str) or value[0] not in FORMS:
        return False
    forms = FORMS[value[0]]
    return len(value) == len(forms) + 1 and all([_has_form(part, form) for part, form in zip(value[1:], forms)])


def new_joints(deed):
    """The names of the joints that the deed sets."""
    return [deed[1]] if deed[0] == "joint" else []


def new_bars(deed):
    """The bars that the deed sets."""
    if deed[0] == "joint":
        return [(bar, deed[1], other, role) for bar, other, role in deed[5]]
    return [deed[1:]] if deed[0] == "bar" else []


def _due_joints(deed):
    """The names in the deed that must be those of joints which are there."""
    if deed[0] == "joint":
        return [other for _, other, _ in deed[5]]
    if deed[0] == "bar":
        return [deed[2], deed[3]]
    return [] if deed[0] == "cut" else [deed[1]]


def need_names_of(frame, deed):
    """Checks the names in the deed: first those that must be new, then those that must be there."""
    for joint in new_joints(deed):
        if joint in frame:
            raise RepeatedName(joint)
    need_new_bars(frame.bars + new_bars(deed))
    need_joints_there(frame, _due_joints(deed))
    if deed[0] == "cut":
        need_bar_there(frame, deed[1])


def _frame_after(frame, deed):
    word = deed[0]
    if word == "joint":
        _, joint, x, y, across, _ = deed
        # A new joint is the last one, and so is its ground.
        held = [] if across is None else [(joint, across)]
        bars = frame.bars + new_bars(deed)
        return Frame([*frame.joints, (joint, x, y)], bars, grounds=frame.grounds + held)
    if word == "bar":
        return Frame(frame.joints, frame.bars + new_bars(deed), grounds=frame.grounds)
    if word == "ground":
        return with_ground(frame, deed[1], deed[2])
    if word == "cut":
        return without_bar(frame, deed[1])
    return without_joint(frame, deed[1]) if word == "drop" else frame


def after(frame, load, deed):
    """The frame and the load after the deed, whose names are known to fit. Raises ZeroBar for a new bar."""
    changed = _frame_after(frame, deed)
    if deed[0] == "load":
        return changed, load + Load.single(deed[1], deed[2], deed[3])
    # A joint that is dropped takes its force with it.
    return changed, part_load(load, joint_names(changed))
