"""How much a frame carries until its bars give way, and how far it sags on springs."""

from standframes.checks import (
    bar_names, is_pulls, is_reactions, need_bar_there, need_frame, need_pulls, need_velocities,
)
from standframes.elimination import plain_solution
from standframes.errors import OutOfBounds, WrongKind
from standframes.exact import NOUGHT, UNIT, minus, opposite, over, plus, products, sum_of, times
from standframes.forces import carry
from standframes.frames import is_name, need_each_once
from standframes.least import least_values
from standframes.loads import need_joints_of_load, need_load, power
from standframes.ratios import is_ratio
from standframes.statics import (
    are_forces, bar_columns, bar_rates, drives_motion, ground_columns, is_grounded, load_column, pulls_of,
    reactions_of, rows_of, velocities_of,
)

MOST_LIMITS = 30


def _is_bound(value):
    """True if the value is None or a ratio that is not negative."""
    return value is None or (is_ratio(value) and value[0] >= 0)


def _is_limit(item):
    return isinstance(item, tuple) and len(item) == 3 and is_name(item[0]) and _is_bound(item[1]) and _is_bound(item[2])


def _need_limits(limits):
    if not isinstance(limits, list) or not all([_is_limit(item) for item in limits]):
        raise WrongKind("limits")


def _bound_limits(limits):
    if len(limits) > MOST_LIMITS:
        raise OutOfBounds("limits")
    need_each_once([bar for bar, _, _ in limits])


def _need_limited(frame, limits):
    for bar, _, _ in limits:
        need_bar_there(frame, bar)


def _check_limited(frame, load, limits):
    need_frame(frame)
    need_load(load)
    _need_limits(limits)
    _bound_limits(limits)
    need_joints_of_load(frame, load)
    _need_limited(frame, limits)


def _bounds(frame, limits):
    """For each bar, the tuple of its limits push and pull."""
    told = {bar: (push, pull) for bar, push, pull in limits}
    return [told.get(bar, (None, None)) for bar in bar_names(frame)]


def _dissipation_of(bounds, rates):
    parts = []
    for (push, pull), speed in zip(bounds, rates):
        if speed[0] != 0:
            bound, amount = (pull, speed) if speed[0] > 0 else (push, opposite(speed))
            if bound is None:
                return None
            parts.append(times(bound, amount))
    return sum_of(parts)


def dissipation(frame, limits, velocities):
    """The sum of the limits times the rates of the bars, or None if a limit that is needed is None."""
    need_frame(frame)
    _need_limits(limits)
    need_velocities(frame, velocities, "velocities")
    _bound_limits(limits)
    _need_limited(frame, limits)
    return _dissipation_of(_bounds(frame, limits), bar_rates(frame, velocities))


def _start_and_way(bound):
    """The pull from which the pull of a bar with these limits is measured, and the sign of what is measured."""
    push, pull = bound
    if push is not None:
        return (opposite(push), 1)
    if pull is not None:
        return (pull, -1)
    return (NOUGHT, 0)


def _boxed(bounds):
    """The indexes of the bars with both limits, and the ranges of their pulls."""
    return [
        (at, plus(push, pull)) for at, (push, pull) in enumerate(bounds) if push is not None and pull is not None
    ]


def _factor_at(frame):
    """The index of the factor among the unknowns: it stands behind the bars and the reactions."""
    return len(frame.bars) + len(ground_columns(frame))


def _greatest_factor(frame, load, bounds):
    """What `least` returns for the greatest factor.

    The unknowns are, for each bar, its pull as measured from one of its limits, then those of the reactions, the
    factor, and for each bar with both limits what is left up to the other one.
    """
    given = load_column(frame, load)
    starts = [_start_and_way(bound) for bound in bounds]
    boxed = _boxed(bounds)
    blank = [NOUGHT for _ in boxed]
    rows = [row + blank for row in rows_of(bar_columns(frame) + ground_columns(frame) + [given], len(given))]
    first = [start for start, _ in starts]
    right = [opposite(products(first, row[:len(bounds)])) for row in rows]
    factor = _factor_at(frame)
    width = factor + 1 + len(boxed)
    for k, (at, size) in enumerate(boxed):
        ends = (at, factor + 1 + k)
        rows.append([UNIT if column in ends else NOUGHT for column in range(width)])
        right.append(size)
    # A negative factor is allowed here: it is never the greatest, and so the power of the prices is exactly 1.
    ways = [way for _, way in starts] + [0 for _ in range(len(bounds), factor + 1)] + [1 for _ in boxed]
    costs = [(-1 if column == factor else 0, 1) for column in range(width)]
    return least_values(rows, right, costs, ways)


def _endless_forces(frame, ray):
    """Forces for the load, from changes of all unknowns that make the factor greater."""
    factor = ray[_factor_at(frame)]
    values = [over(value, factor) for value in ray]
    count = len(frame.bars)
    return ("endless", pulls_of(frame, values[:count]), reactions_of(frame, values[count:]))


def collapse(frame, load, limits):
    """("falls", factor, pulls, reactions, velocities) or ("endless", pulls, reactions)."""
    _check_limited(frame, load, limits)
    bounds = _bounds(frame, limits)
    # The factor zero is always carried, so there is no refusal.
    word, values, more = _greatest_factor(frame, load, bounds)
    if word == "endless":
        return _endless_forces(frame, more)
    held = [plus(_start_and_way(bound)[0], value) for bound, value in zip(bounds, values)]
    reactions = reactions_of(frame, values[len(bounds):])
    moves = velocities_of(frame, [opposite(price) for price in more])
    return ("falls", values[_factor_at(frame)], pulls_of(frame, held), reactions, moves)


def _is_within(bound, pull):
    push, most = bound
    if push is not None and plus(push, pull)[0] < 0:
        return False
    return most is None or minus(most, pull)[0] >= 0


def _is_free(bound, pull):
    """True if there is no limit in the direction of the pull."""
    push, most = bound
    return pull[0] == 0 or (most is None if pull[0] > 0 else push is None)


def _is_fall(frame, load, bounds, answer):
    _, factor, pulls, reactions, moves = answer
    if not is_ratio(factor) or factor[0] < 0 or not is_pulls(frame, pulls) or not is_reactions(frame, reactions):
        return False
    if not is_grounded(frame, moves) or not are_forces(frame, load * factor, pulls, reactions):
        return False
    if not all([_is_within(bound, pull) for bound, (_, pull) in zip(bounds, pulls)]):
        return False
    return power(load, moves) == UNIT and _dissipation_of(bounds, bar_rates(frame, moves)) == factor


def _is_endless(frame, load, bounds, answer):
    _, pulls, reactions = answer
    if not is_pulls(frame, pulls) or not is_reactions(frame, reactions):
        return False
    if not all([_is_free(bound, pull) for bound, (_, pull) in zip(bounds, pulls)]):
        return False
    return are_forces(frame, load, pulls, reactions)


def is_collapse(frame, load, limits, answer):
    """True if the answer is a right one of `collapse`."""
    _check_limited(frame, load, limits)
    bounds = _bounds(frame, limits)
    if not isinstance(answer, tuple) or len(answer) not in (3, 5):
        return False
    if len(answer) == 3:
        return answer[0] == "endless" and _is_endless(frame, load, bounds, answer)
    return answer[0] == "falls" and _is_fall(frame, load, bounds, answer)


def role_limits(frame):
    """The limits of the one-way bars: no push in a tie, no pull in a prop."""
    need_frame(frame)
    limits = []
    for bar, _, _, role in frame.bars:
        if role == "tie":
            limits.append((bar, NOUGHT, None))
        if role == "prop":
            limits.append((bar, None, NOUGHT))
    return limits


def _need_springs(frame, springs):
    if not is_pulls(frame, springs) or any([stiffness[0] <= 0 for _, stiffness in springs]):
        raise WrongKind("springs")


def _check_sprung(frame, load, springs):
    need_frame(frame)
    need_load(load)
    _need_springs(frame, springs)
    need_joints_of_load(frame, load)


def _spring_rows(frame, springs):
    """The equations of the velocities and the unknowns of the reactions.

    First the forces at the joints, of the bars and of the grounds, then the conditions of the grounds.
    """
    bars = bar_columns(frame)
    grounds = ground_columns(frame)
    rows = []
    for k in range(2 * len(frame.joints)):
        # The rate of a bar is the sum of products of the velocities with its column, times -1.
        row = [NOUGHT for _ in range(2 * len(frame.joints))]
        for column, (_, stiffness) in zip(bars, springs):
            if column[k][0] != 0:
                factor = opposite(times(stiffness, column[k]))
                row = [plus(item, times(factor, part)) for item, part in zip(row, column)]
        rows.append(row + [column[k] for column in grounds])
    return rows + [column + [NOUGHT for _ in grounds] for column in grounds]


def sag(frame, load, springs):
    """("sags", velocities, pulls, reactions), or ("motion", velocities) with the power 1."""
    _check_sprung(frame, load, springs)
    rows = _spring_rows(frame, springs)
    given = load_column(frame, load)
    right = [opposite(item) for item in given] + [NOUGHT for _ in range(len(given), len(rows))]
    values = plain_solution(rows, right, len(rows))
    if values is None:
        return carry(frame, load)
    moves = velocities_of(frame, values)
    pulls = _spring_pulls(frame, springs, moves)
    return ("sags", moves, pulls, reactions_of(frame, values[len(given):]))


def _spring_pulls(frame, springs, moves):
    """The stiffness of each bar times its rate."""
    return [(bar, times(stiffness, speed)) for (bar, stiffness), speed in zip(springs, bar_rates(frame, moves))]


def _is_sag_of(frame, load, springs, answer):
    _, moves, pulls, reactions = answer
    if not is_grounded(frame, moves) or not is_pulls(frame, pulls) or not is_reactions(frame, reactions):
        return False
    return pulls == _spring_pulls(frame, springs, moves) and are_forces(frame, load, pulls, reactions)


def is_sag(frame, load, springs, answer):
    """True if the answer is a right one of `sag`."""
    _check_sprung(frame, load, springs)
    if not isinstance(answer, tuple) or len(answer) not in (2, 4):
        return False
    if len(answer) == 2:
        return answer[0] == "motion" and drives_motion(frame, load, answer[1])
    return answer[0] == "sags" and _is_sag_of(frame, load, springs, answer)


def energy(frame, springs, pulls):
    """The sum of pull * pull / stiffness over the bars."""
    need_frame(frame)
    _need_springs(frame, springs)
    need_pulls(frame, pulls, "pulls")
    return sum_of([over(times(pull, pull), stiffness) for (_, pull), (_, stiffness) in zip(pulls, springs)])
