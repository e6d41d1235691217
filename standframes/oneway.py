"""One-way bars: ties, which only pull, and props, which only push."""

from standframes.checks import is_pulls, is_reactions, need_bar_there, need_frame
from standframes.errors import NotHeld, NotOneWay
from standframes.exact import NOUGHT, opposite, over, plus, products, sign_of
from standframes.frames import need_name
from standframes.least import least_values, signed_values
from standframes.loads import Load, check_loaded, need_joints_of_load, need_load, power, pull_load
from standframes.motions import motions
from standframes.points import ORIGIN
from standframes.statics import (
    are_forces, bar_columns, bar_rates, freedom_of, ground_columns, is_grounded, load_column, pulls_of, reactions_of,
    rows_of, velocities_of,
)

# The sign that the pull of a bar may have, and the opposite of the sign that its rate may have.
WAYS = {"rod": 0, "tie": 1, "prop": -1}


def _bar_ways(frame):
    return [WAYS[role] for _, _, _, role in frame.bars]


def _one_way_bars(frame):
    return [bar for bar, _, _, role in frame.bars if role != "rod"]


def _fits_roles(frame, pulls):
    return all([sign_of(pull) * way >= 0 for (_, pull), way in zip(pulls, _bar_ways(frame))])


def _moves_by_roles(frame, value):
    """True if the value has the form of velocities for the frame and fits the roles."""
    if not is_grounded(frame, value):
        return False
    turns = [(sign_of(speed), way) for speed, way in zip(bar_rates(frame, value), _bar_ways(frame))]
    return all([turn * way <= 0 and (way != 0 or turn == 0) for turn, way in turns])


def _is_held(frame, load, pulls, reactions):
    """True if these are forces for the load that fit the roles."""
    if not is_pulls(frame, pulls) or not is_reactions(frame, reactions):
        return False
    return _fits_roles(frame, pulls) and are_forces(frame, load, pulls, reactions)


def _system(frame, load):
    """(rows, right, ways): the balance of the joints, whose unknowns are the pulls and then those of the reactions.

    The rows have the opposite forces. So prices, and the weights of a refusal, are velocities: the sum of products of
    velocities with the column of a bar is its rate.
    """
    grounds = ground_columns(frame)
    given = load_column(frame, load)
    rows = rows_of(bar_columns(frame) + grounds, len(given))
    return [[opposite(item) for item in row] for row in rows], given, _bar_ways(frame) + [0 for _ in grounds]


def _forces_of(frame, values):
    count = len(frame.bars)
    return (pulls_of(frame, values[:count]), reactions_of(frame, values[count:]))


def _hold_of(frame, load):
    """What `hold` returns."""
    rows, right, ways = _system(frame, load)
    word, values = signed_values(rows, right, ways)
    if word == "solution":
        pulls, reactions = _forces_of(frame, values)
        return ("forces", pulls, reactions)
    given = products(values, right)
    return ("motion", velocities_of(frame, [over(value, given) for value in values]))


def _need_held(frame, load):
    if _hold_of(frame, load)[0] != "forces":
        raise NotHeld()


def hold(frame, load):
    """("forces", pulls, reactions) that fit the roles, or ("motion", velocities) that do, with the power 1."""
    check_loaded(frame, load)
    return _hold_of(frame, load)


def is_hold(frame, load, answer):
    """True if the answer is a right one of `hold`."""
    check_loaded(frame, load)
    if not isinstance(answer, tuple) or len(answer) not in (2, 3):
        return False
    if len(answer) == 2:
        return answer[0] == "motion" and _moves_by_roles(frame, answer[1]) and power(load, answer[1])[0] > 0
    return answer[0] == "forces" and _is_held(frame, load, answer[1], answer[2])


def _check_slack(frame, load, bar):
    need_frame(frame)
    need_load(load)
    need_name(bar, "bar")
    need_joints_of_load(frame, load)
    need_bar_there(frame, bar)
    if frame.role(bar) == "rod":
        raise NotOneWay(bar)


def _slack_of(frame, load, bar):
    """What `slack` returns for a load that is held: it looks for the greatest pull, or push, of the bar."""
    rows, right, ways = _system(frame, load)
    at = [name for name, _, _, _ in frame.bars].index(bar)
    costs = [(-way if k == at else 0, 1) for k, way in enumerate(ways)]
    answer = least_values(rows, right, costs, ways)
    values = answer[1]
    if answer[0] == "endless":
        values = [plus(value, step) for value, step in zip(values, answer[2])]
    elif values[at][0] == 0:
        # The prices of a least cost of zero: no power, and the cost of the bar shows in its rate.
        return ("slack", velocities_of(frame, answer[2]))
    pulls, reactions = _forces_of(frame, values)
    return ("works", pulls, reactions)


def slack(frame, load, bar):
    """("works", pulls, reactions) with a pull in the bar, or ("slack", velocities) with a rate of the bar."""
    _check_slack(frame, load, bar)
    _need_held(frame, load)
    return _slack_of(frame, load, bar)


def _is_idle(frame, load, bar, value):
    """True if the value is velocities that fit the roles, without power, under which the bar has a rate."""
    if not _moves_by_roles(frame, value) or power(load, value)[0] != 0:
        return False
    speeds = [speed for (name, _, _, _), speed in zip(frame.bars, bar_rates(frame, value)) if name == bar]
    return speeds[0][0] != 0


def is_slack(frame, load, bar, answer):
    """True if the answer is a right one of `slack`."""
    _check_slack(frame, load, bar)
    _need_held(frame, load)
    if not isinstance(answer, tuple) or len(answer) not in (2, 3):
        return False
    if len(answer) == 2:
        return answer[0] == "slack" and _is_idle(frame, load, bar, answer[1])
    return answer[0] == "works" and _is_held(frame, load, answer[1], answer[2]) and (bar, NOUGHT) not in answer[1]


def slack_bars(frame, load):
    """The names of the slack one-way bars."""
    check_loaded(frame, load)
    _need_held(frame, load)
    works = {}
    idle = []
    for bar in _one_way_bars(frame):
        if bar not in works:
            answer = _slack_of(frame, load, bar)
            if answer[0] == "slack":
                idle.append(bar)
            else:
                # Forces in which one bar works often show the same of others.
                for name, pull in answer[1]:
                    if pull[0] != 0:
                        works[name] = True
    return idle


def _unit_pulls(frame):
    """The pull 1 in each tie and -1 in each prop."""
    return [(bar, (WAYS[role], 1)) for bar, _, _, role in frame.bars]


def steady(frame):
    """("steady", pulls, reactions) without load, or ("motion", velocities) that fit the roles."""
    need_frame(frame)
    found = motions(frame)
    if found:
        return ("motion", found[0])
    unit = _unit_pulls(frame)
    answer = _hold_of(frame, pull_load(frame, unit))
    if answer[0] == "motion":
        return answer
    pulls = [(bar, plus(pull, more)) for (bar, pull), (_, more) in zip(answer[1], unit)]
    return ("steady", pulls, answer[2])


def _is_stressed(frame, pulls, reactions):
    """True if these are forces for the zero load in which each one-way bar works."""
    if not _is_held(frame, Load([]), pulls, reactions):
        return False
    return all([role == "rod" or pull[0] != 0 for (_, pull), (_, _, _, role) in zip(pulls, frame.bars)])


def is_steady(frame, answer):
    """True if the answer is a right one of `steady`."""
    need_frame(frame)
    if not isinstance(answer, tuple) or len(answer) not in (2, 3):
        return False
    if len(answer) == 2:
        moves = answer[1]
        return answer[0] == "motion" and _moves_by_roles(frame, moves) and any([(x, y) != ORIGIN for _, x, y in moves])
    return answer[0] == "steady" and freedom_of(frame) == 0 and _is_stressed(frame, answer[1], answer[2])
