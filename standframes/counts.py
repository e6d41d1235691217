"""Counting the bars of a frame by groups of joints. Places, grounds and roles have no effect here."""

from standframes.checks import check_group, is_names, joint_names, need_bar_there, need_frame
from standframes.counting import Tally, is_tight, keep_bars, kept_before, room_of
from standframes.errors import OutOfBounds, WrongKind
from standframes.frames import need_name
from standframes.ratios import is_integer


def room(size):
    """The most bars that a sparse set has between this many joints."""
    if not is_integer(size):
        raise WrongKind("size")
    if size < 0:
        raise OutOfBounds("size")
    return room_of(size)


def _inner_of(frame, joints):
    return [bar for bar, one, other, _ in frame.bars if one in joints and other in joints]


def inner_bars(frame, joints):
    """The bars with both ends among the joints."""
    check_group(frame, joints)
    return _inner_of(frame, joints)


def kept_bars(frame):
    """The bars that make a sparse set with the bars kept before them."""
    need_frame(frame)
    return keep_bars(Tally(joint_names(frame)), frame.bars)


def counted_freedom(frame):
    """Twice the number of the joints minus the number of the kept bars."""
    kept = kept_bars(frame)
    return 2 * len(frame.joints) - len(kept)


def sparse(frame):
    """True if no two joints or more have more inner bars than their room."""
    kept = kept_bars(frame)
    return len(kept) == len(frame.bars)


def tight(frame):
    """True if the frame has at least two joints, is sparse, and has as many bars as they have room for."""
    need_frame(frame)
    return is_tight(joint_names(frame), frame.bars)


def crowd(frame, bar):
    """The smallest group of joints that had no room for the bar, or None if the bar is kept."""
    need_frame(frame)
    need_name(bar, "bar")
    need_bar_there(frame, bar)
    tally = kept_before(frame, bar)
    one, other = frame.ends(bar)
    if tally.takes(one, other):
        return None
    return tally.joints_in(tally.smallest(tally.full_around(one, other)))


def is_crowded(frame, value):
    """True if the value is a list of at least two joints, none twice, with more inner bars than their room."""
    need_frame(frame)
    if not is_names(value):
        return False
    # Fewer than two joints have no inner bars and no room.
    names = joint_names(frame)
    if any([name not in names or value.count(name) > 1 for name in value]):
        return False
    return len(_inner_of(frame, value)) > room_of(len(value))


def stiff_parts(frame):
    """The largest groups whose kept bars take up all their room, in the order of their first bars."""
    need_frame(frame)
    tally = Tally(joint_names(frame))
    keep_bars(tally, frame.bars)
    parts = []
    for _, one, other, _ in frame.bars:
        group = tally.largest(tally.full_around(one, other))
        if group not in parts:
            parts.append(group)
    return [tally.joints_in(group) for group in parts]


def missing_pairs(frame):
    """The pairs of joints between which further bars make a sparse set with the kept bars."""
    need_frame(frame)
    names = joint_names(frame)
    tally = Tally(names)
    keep_bars(tally, frame.bars)
    taken = []
    for at, one in enumerate(names):
        for other in names[at + 1:]:
            if tally.takes(one, other):
                tally.put(one, other)
                taken.append((one, other))
    return taken
