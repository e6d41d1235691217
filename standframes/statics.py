"""Balance and motion of frames, for arguments that are known to fit."""

from standframes.checks import is_velocities, joint_names, keeps_ground
from standframes.elimination import pivot_columns
from standframes.exact import NOUGHT, opposite
from standframes.loads import load_of, power, pull_load
from standframes.points import difference, dot_product, left_turn, stretched, sum_point

FIXED_TURNS = (((1, 1), (0, 1)), ((0, 1), (1, 1)))


def column_of(names, forces):
    """The forces, a dict of points, as a column: x and then y for each joint."""
    column = []
    for name in names:
        x, y = forces.get(name, (NOUGHT, NOUGHT))
        column.append(x)
        column.append(y)
    return column


def bar_columns(frame):
    """For each bar, the forces on all joints when its pull is 1."""
    names = joint_names(frame)
    columns = []
    for bar, one, other, _ in frame.bars:
        x, y = frame.span(bar)
        columns.append(column_of(names, {one: (x, y), other: (opposite(x), opposite(y))}))
    return columns


def ground_forces(across):
    """The forces of which each reaction of the ground is a sum of multiples."""
    return list(FIXED_TURNS) if across == "fixed" else [left_turn(across)]


def ground_columns(frame):
    """For each unknown of the reactions, in order, the forces on all joints when it is 1."""
    names = joint_names(frame)
    return [column_of(names, {joint: force}) for joint, across in frame.grounds for force in ground_forces(across)]


def rows_of(columns, height):
    """The rows of a system with these columns."""
    return [[column[k] for column in columns] for k in range(height)]


def load_column(frame, load):
    """The forces of the load on all joints."""
    return column_of(joint_names(frame), {name: (x, y) for name, x, y in load.entries})


def pulls_of(frame, values):
    return [(row[0], value) for row, value in zip(frame.bars, values)]


def reactions_of(frame, values):
    """Reactions from the values of their unknowns, in order."""
    result = []
    at = 0
    for joint, across in frame.grounds:
        if across == "fixed":
            result.append((joint, values[at], values[at + 1]))
            at += 2
        else:
            x, y = stretched(left_turn(across), values[at])
            result.append((joint, x, y))
            at += 1
    return result


def velocities_of(frame, values):
    """Velocities from x and then y for each joint."""
    return [(name, values[2 * k], values[2 * k + 1]) for k, name in enumerate(joint_names(frame))]


def are_forces(frame, load, pulls, reactions):
    """True if the pulls and reactions are forces for the load."""
    return (load + pull_load(frame, pulls) + load_of(reactions)).count() == 0


def rate_of(frame, speeds, one, other):
    """The rate of two joints, where speeds is a dict of the velocities."""
    return dot_product(difference(frame.place(one), frame.place(other)), difference(speeds[one], speeds[other]))


def bar_rates(frame, velocities):
    """The rate of each bar under the velocities, in order."""
    speeds = {name: (x, y) for name, x, y in velocities}
    return [rate_of(frame, speeds, one, other) for _, one, other, _ in frame.bars]


def rigid_velocity(place, shift, turn):
    """The velocity at the place of a body that is shifted, and turned about the zero point."""
    return sum_point(shift, stretched(left_turn(place), turn))


def motion_rows(frame):
    """The equations of motions: the rates of the bars, each times -1, and the conditions of the grounds."""
    return bar_columns(frame) + ground_columns(frame)


def freedom_of(frame):
    """The number of motions of which each motion is a sum of multiples in exactly one way."""
    width = 2 * len(frame.joints)
    return width - len(pivot_columns(motion_rows(frame), width))


def is_grounded(frame, value):
    """True if the value has the form of velocities for the frame and keeps every ground."""
    if not is_velocities(frame, value):
        return False
    speeds = {name: (x, y) for name, x, y in value}
    return all([keeps_ground(across, speeds[name]) for name, across in frame.grounds])


def is_motion_of(frame, value):
    """True if the value is a motion of the frame."""
    return is_grounded(frame, value) and all([speed[0] == 0 for speed in bar_rates(frame, value)])


def drives_motion(frame, load, value):
    """True if the value is a motion of the frame under which the power of the load is positive."""
    return is_motion_of(frame, value) and power(load, value)[0] > 0
