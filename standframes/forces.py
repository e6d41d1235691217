"""Forces that carry a load, and own stresses."""

from standframes.checks import is_pulls, is_reactions, need_frame
from standframes.elimination import null_values, plain_solution, refusal
from standframes.exact import opposite
from standframes.loads import check_loaded, pull_load
from standframes.statics import (
    are_forces, bar_columns, drives_motion, ground_columns, load_column, pulls_of, reactions_of, rows_of, velocities_of,
)


def carry(frame, load):
    """("forces", pulls, reactions), or ("motion", velocities) with the power 1."""
    check_loaded(frame, load)
    columns = bar_columns(frame) + ground_columns(frame)
    given = load_column(frame, load)
    rows = rows_of(columns, len(given))
    values = plain_solution(rows, [opposite(item) for item in given], len(columns))
    if values is None:
        # A refusal gives each joint two weights, under which no bar and no ground does work: they are velocities.
        return ("motion", velocities_of(frame, refusal(rows, given, len(columns))))
    count = len(frame.bars)
    return ("forces", pulls_of(frame, values[:count]), reactions_of(frame, values[count:]))


def is_carry(frame, load, answer):
    """True if the answer is a right one of `carry`."""
    check_loaded(frame, load)
    if not isinstance(answer, tuple) or len(answer) not in (2, 3):
        return False
    if len(answer) == 2:
        return answer[0] == "motion" and drives_motion(frame, load, answer[1])
    if answer[0] != "forces" or not is_pulls(frame, answer[1]) or not is_reactions(frame, answer[2]):
        return False
    return are_forces(frame, load, answer[1], answer[2])


def own_stresses(frame):
    """The null solutions for the pulls, each as pulls."""
    need_frame(frame)
    columns = bar_columns(frame)
    rows = rows_of(columns, 2 * len(frame.joints))
    return [pulls_of(frame, values) for values in null_values(rows, len(columns))]


def is_own_stress(frame, value):
    """True if the value has the form of pulls for the frame and is an own stress."""
    need_frame(frame)
    return is_pulls(frame, value) and pull_load(frame, value).count() == 0
