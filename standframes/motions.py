"""Motions of frames: which joints move, which bodies are stiff, which pairs are locked."""

from standframes.changes import ZERO, bare
from standframes.checks import (
    is_velocities, joint_names, need_frame, need_joints_there, need_point, need_velocities,
)
from standframes.elimination import null_values, plain_solution
from standframes.exact import NOUGHT, UNIT, opposite
from standframes.forces import carry
from standframes.frames import need_name
from standframes.loads import pair_load
from standframes.points import ORIGIN
from standframes.ratios import need_ratio
from standframes.statics import freedom_of, is_motion_of, motion_rows, rate_of, rigid_velocity, velocities_of


def motions(frame):
    """The null solutions for the velocities, each as velocities."""
    need_frame(frame)
    return [velocities_of(frame, values) for values in null_values(motion_rows(frame), 2 * len(frame.joints))]


def freedom(frame):
    """The number of the motions."""
    need_frame(frame)
    return freedom_of(frame)


def stands(frame):
    """True if no joint can move."""
    need_frame(frame)
    return freedom_of(frame) == 0


def is_motion(frame, value):
    """True if the value has the form of velocities for the frame and is a motion."""
    need_frame(frame)
    return is_motion_of(frame, value)


def rate(frame, velocities, one, other):
    """The dot of the differences of the places and of the velocities of two joints."""
    need_frame(frame)
    need_velocities(frame, velocities, "velocities")
    need_name(one, "one")
    need_name(other, "other")
    need_joints_there(frame, [one, other])
    return rate_of(frame, {name: (x, y) for name, x, y in velocities}, one, other)


def loose_joints(frame):
    """The joints that move in some motion."""
    moving = {name: True for moves in motions(frame) for name, x, y in moves if (x, y) != ORIGIN}
    return [name for name in joint_names(frame) if name in moving]


def rigid(frame, *, shift=ZERO, turn=(0, 1)):
    """The velocities of one body that is shifted and turned."""
    need_frame(frame)
    need_point(shift, "shift")
    need_ratio(turn, "turn")
    moves = []
    for name, a, b in frame.joints:
        x, y = rigid_velocity((a, b), shift, turn)
        moves.append((name, x, y))
    return moves


def _is_one_body(frame, velocities):
    """True if some shift and turn give these velocities."""
    rows = []
    right = []
    for (_, a, b), (_, x, y) in zip(frame.joints, velocities):
        rows.append([UNIT, NOUGHT, opposite(b)])
        right.append(x)
        rows.append([NOUGHT, UNIT, a])
        right.append(y)
    return plain_solution(rows, right, 3) is not None


def is_rigid(frame, value):
    """True if the value is rigid velocities of the frame."""
    need_frame(frame)
    return is_velocities(frame, value) and _is_one_body(frame, value)


def stiff(frame):
    """True if the frame without its grounds moves as one body only."""
    need_frame(frame)
    return all([_is_one_body(frame, moves) for moves in motions(bare(frame))])


def lock(frame, one, other):
    """What `carry` returns for the pair load: forces, or a motion under which the rate of the joints is 1."""
    return carry(frame, pair_load(frame, one, other))
