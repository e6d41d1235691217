"""Cuts: the forces that hold one side of a frame."""

from standframes.changes import part_load, part_on
from standframes.checks import check_group, is_reactions, need_frame, need_joints_there, need_names, need_pulls
from standframes.elimination import pivot_columns, plain_solution, refusal
from standframes.errors import WrongKind
from standframes.exact import opposite, times
from standframes.frames import need_each_once
from standframes.loads import load_of, need_joints_of_load, need_load, resultant
from standframes.points import ORIGIN
from standframes.statics import ground_forces, reactions_of, rigid_velocity, rows_of


def _cut_of(frame, joints):
    return [bar for bar, one, other, _ in frame.bars if (one in joints) != (other in joints)]


def _cut_forces(frame, joints):
    """For each cut bar, the force (joint, x, y) on its end among the joints when its pull is 1."""
    forces = []
    for bar in _cut_of(frame, joints):
        one, other = frame.ends(bar)
        x, y = frame.span(bar)
        forces.append((one, x, y) if one in joints else (other, opposite(x), opposite(y)))
    return forces


def _ground_forces(grounds):
    """For each unknown of the reactions at these grounds, the force (joint, x, y) when it is 1."""
    return [(joint, x, y) for joint, across in grounds for x, y in ground_forces(across)]


def cut_bars(frame, joints):
    """The bars with exactly one end among the joints."""
    check_group(frame, joints)
    return _cut_of(frame, joints)


def balance(frame, load, joints, *, pulls, reactions):
    """(x, y, moment) of all forces on the joints of the cut."""
    need_frame(frame)
    need_load(load)
    need_names(joints, "joints")
    need_pulls(frame, pulls, "pulls")
    if not is_reactions(frame, reactions):
        raise WrongKind("reactions")
    need_each_once(joints)
    need_joints_of_load(frame, load)
    need_joints_there(frame, joints)
    cut = _cut_of(frame, joints)
    held = [pull for bar, pull in pulls if bar in cut]
    forces = [
        (name, times(x, pull), times(y, pull)) for (name, x, y), pull in zip(_cut_forces(frame, joints), held)
    ]
    return resultant(frame, part_load(load + load_of(reactions), joints) + load_of(forces))


def _moving_side(frame, joints, weights):
    """Velocities that move the joints of the cut as one body and leave the other ones at rest."""
    along, up, turn = weights
    moves = []
    for name, a, b in frame.joints:
        x, y = rigid_velocity((a, b), (along, up), turn) if name in joints else ORIGIN
        moves.append((name, x, y))
    return moves


def section(frame, load, joints):
    """("pulls", pulls, reactions), ("open", number) or ("motion", velocities)."""
    need_frame(frame)
    need_load(load)
    need_names(joints, "joints")
    need_each_once(joints)
    need_joints_of_load(frame, load)
    need_joints_there(frame, joints)
    side = part_on(frame, joints)
    forces = _cut_forces(frame, joints) + _ground_forces(side.grounds)
    columns = [list(resultant(frame, load_of([force]))) for force in forces]
    rows = rows_of(columns, 3)
    given = list(resultant(frame, part_load(load, joints)))
    values = plain_solution(rows, [opposite(item) for item in given], len(columns))
    if values is None:
        # The weights of the three sums are a motion of the cut as one body, against which no unknown works.
        return ("motion", _moving_side(frame, joints, refusal(rows, given, len(columns))))
    free = len(columns) - len(pivot_columns(rows, len(columns)))
    if free > 0:
        return ("open", free)
    cut = _cut_of(frame, joints)
    pulls = list(zip(cut, values))
    return ("pulls", pulls, reactions_of(side, values[len(cut):]))
