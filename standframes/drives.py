"""Drives: bars that are made to stretch or to turn, and frames that move as a whole."""

from standframes.changes import moved
from standframes.checks import (
    are_rows, is_pulls, is_reactions, joint_names, keeps_ground, need_bar_there, need_frame, need_velocities,
)
from standframes.elimination import plain_solution, refusal
from standframes.errors import NotAlike, NotMotion, RepeatedName, WrongKind
from standframes.exact import NOUGHT, UNIT, minus, opposite, sum_of, times
from standframes.frames import Frame, is_name
from standframes.loads import load_of, pull_load
from standframes.points import cross_product, difference, left_turn, stretched, sum_point
from standframes.ratios import is_ratio
from standframes.statics import (
    bar_columns, bar_rates, column_of, ground_columns, is_grounded, is_motion_of, pulls_of, reactions_of, velocities_of,
)

WORDS = ("stretch", "turn")
HALF = (1, 2)


def _is_drive(item):
    return isinstance(item, tuple) and len(item) == 3 and item[0] in WORDS and is_name(item[1]) and is_ratio(item[2])


def _check_drives(frame, drives):
    need_frame(frame)
    if not isinstance(drives, list) or not all([_is_drive(item) for item in drives]):
        raise WrongKind("drives")
    seen = {}
    for word, bar, _ in drives:
        if (word, bar) in seen:
            raise RepeatedName(bar)
        seen[(word, bar)] = True
    for _, bar, _ in drives:
        need_bar_there(frame, bar)


def _speeds(drives, word):
    """The (bar, speed) of the drives with this word, in order."""
    return [(bar, speed) for told, bar, speed in drives if told == word]


def _stretch_speeds(frame, drives):
    """The rate that each bar has to have."""
    told = {bar: speed for bar, speed in _speeds(drives, "stretch")}
    return [told.get(bar, NOUGHT) for bar, _, _, _ in frame.bars]


def _twist_forces(frame, bar, twist):
    """The forces (joint, x, y) with which this twist acts on the ends of the bar."""
    one, other = frame.ends(bar)
    x, y = stretched(left_turn(frame.span(bar)), twist)
    return [(one, opposite(x), opposite(y)), (other, x, y)]


def _twist_column(frame, bar):
    """The forces of the twist 1 on all joints. Its sum of products with velocities is the cross of the bar's turn."""
    return column_of(joint_names(frame), {name: (x, y) for name, x, y in _twist_forces(frame, bar, UNIT)})


def _system(frame, drives):
    """(rows, right): the rates of the bars, each times -1, the conditions of the grounds, and those of the turns."""
    grounds = ground_columns(frame)
    turns = _speeds(drives, "turn")
    rows = bar_columns(frame) + grounds + [_twist_column(frame, bar) for bar, _ in turns]
    right = [opposite(speed) for speed in _stretch_speeds(frame, drives)] + [NOUGHT for _ in grounds]
    return rows, right + [times(speed, frame.squared(bar)) for bar, speed in turns]


def drive(frame, drives):
    """("motion", velocities) that follow the drives, or ("blocked", pulls, twists, reactions)."""
    _check_drives(frame, drives)
    rows, right = _system(frame, drives)
    width = 2 * len(frame.joints)
    values = plain_solution(rows, right, width)
    if values is not None:
        return ("motion", velocities_of(frame, values))
    # The weights of the rows are pulls, factors of reactions, and twists: they balance at each joint.
    weights = refusal(rows, right, width)
    bars = len(frame.bars)
    grounds = len(ground_columns(frame))
    turns = [bar for bar, _ in _speeds(drives, "turn")]
    twists = list(zip(turns, weights[bars + grounds:]))
    return ("blocked", pulls_of(frame, weights), twists, reactions_of(frame, weights[bars:]))


def _follows(frame, drives, value):
    """True if the value is velocities that keep every ground and follow the drives."""
    if not is_grounded(frame, value) or bar_rates(frame, value) != _stretch_speeds(frame, drives):
        return False
    speeds = {name: (x, y) for name, x, y in value}
    for bar, speed in _speeds(drives, "turn"):
        one, other = frame.ends(bar)
        turn = cross_product(frame.span(bar), difference(speeds[other], speeds[one]))
        if turn != times(speed, frame.squared(bar)):
            return False
    return True


def _blocks(frame, drives, pulls, twists, reactions):
    turns = _speeds(drives, "turn")
    if not is_pulls(frame, pulls) or not is_reactions(frame, reactions):
        return False
    if not are_rows(twists, [bar for bar, _ in turns], 1):
        return False
    twisting = [force for bar, twist in twists for force in _twist_forces(frame, bar, twist)]
    if (pull_load(frame, pulls) + load_of(twisting + reactions)).count() != 0:
        return False
    pulled = [times(pull, speed) for (_, pull), speed in zip(pulls, _stretch_speeds(frame, drives))]
    twisted = [
        times(twist, times(speed, frame.squared(bar))) for (_, twist), (bar, speed) in zip(twists, turns)
    ]
    return minus(sum_of(pulled), sum_of(twisted)) != NOUGHT


def is_drive(frame, drives, answer):
    """True if the answer is a right one of `drive`."""
    _check_drives(frame, drives)
    if not isinstance(answer, tuple) or len(answer) not in (2, 4):
        return False
    if len(answer) == 2:
        return answer[0] == "motion" and _follows(frame, drives, answer[1])
    return answer[0] == "blocked" and _blocks(frame, drives, answer[1], answer[2], answer[3])


def _shifted(frame, velocities, factor):
    """The frame with its places plus the velocities times the factor."""
    places = []
    for (name, a, b), (_, x, y) in zip(frame.joints, velocities):
        along, up = sum_point((a, b), stretched((x, y), factor))
        places.append((name, along, up))
    return moved(frame, places)


def swing(frame, velocities):
    """The two frames with the places plus, and minus, the velocities of a motion."""
    need_frame(frame)
    need_velocities(frame, velocities, "velocities")
    if not is_motion_of(frame, velocities):
        raise NotMotion()
    return (_shifted(frame, velocities, (1, 1)), _shifted(frame, velocities, (-1, 1)))


def _are_alike(frame, other):
    """True if the frames are alike."""
    if [name for name, _, _ in frame.joints] != [name for name, _, _ in other.joints]:
        return False
    if frame.bars != other.bars or frame.grounds != other.grounds:
        return False
    if any([frame.squared(bar) != other.squared(bar) for bar, _, _, _ in frame.bars]):
        return False
    for joint, across in frame.grounds:
        if not keeps_ground(across, difference(frame.place(joint), other.place(joint))):
            return False
    return True


def halfway(frame, other):
    """The frame halfway between two frames that are alike, and the motion from there to the first one."""
    need_frame(frame)
    if not isinstance(other, Frame):
        raise WrongKind("other")
    if not _are_alike(frame, other):
        raise NotAlike()
    moves = []
    for (name, a, b), (_, x, y) in zip(frame.joints, other.joints):
        along, up = stretched(difference((a, b), (x, y)), HALF)
        moves.append((name, along, up))
    return (_shifted(frame, moves, (-1, 1)), moves)
