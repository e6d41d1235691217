"""The lightest forces for a load, and the cheapest one-way bars with which a frame holds it."""

from standframes.checks import is_pulls, is_reactions, need_frame
from standframes.elimination import whole_row
from standframes.errors import OutOfBounds, WrongKind
from standframes.exact import minus, opposite, sum_of, times
from standframes.forces import carry
from standframes.frames import is_name, is_role, need_new_bars
from standframes.least import least_values
from standframes.loads import need_joints_of_load, need_load, power
from standframes.mending import bound_offers, is_cost, is_some, with_bars
from standframes.oneway import hold, is_hold
from standframes.ratios import is_ratio
from standframes.statics import (
    are_forces, bar_columns, bar_rates, drives_motion, ground_columns, is_grounded, load_column, pulls_of,
    reactions_of, rows_of, velocities_of,
)

MOST_LIGHT = 12
MOST_OFFERS = 6


def _check_light(frame, load):
    need_frame(frame)
    need_load(load)
    if len(frame.bars) > MOST_LIGHT:
        raise OutOfBounds("frame")
    need_joints_of_load(frame, load)


def _squares(frame):
    """The squared length of each bar."""
    return [frame.squared(bar) for bar, _, _, _ in frame.bars]


def _size(value):
    """The ratio without its sign."""
    return (abs(value[0]), value[1])


def _volume_of(frame, pulls):
    return sum_of([times(square, _size(pull)) for square, (_, pull) in zip(_squares(frame), pulls)])


def _turned(column):
    return [opposite(item) for item in column]


def lightest(frame, load):
    """("lightest", volume, pulls, reactions, velocities), or ("motion", velocities) with the power 1."""
    _check_light(frame, load)
    bars = bar_columns(frame)
    grounds = ground_columns(frame)
    given = load_column(frame, load)
    # The unknowns: what each bar pulls, what each one pushes, and those of the reactions. The rows have the opposite
    # forces, so that the prices are velocities.
    columns = [_turned(column) for column in bars] + bars + [_turned(column) for column in grounds]
    costs = _squares(frame) * 2 + [(0, 1) for _ in grounds]
    ways = [1 for _ in bars + bars] + [0 for _ in grounds]
    answer = least_values(rows_of(columns, len(given)), given, costs, ways)
    if answer[0] == "none":
        return carry(frame, load)
    _, values, prices = answer
    count = len(bars)
    pulls = pulls_of(frame, [minus(pull, push) for pull, push in zip(values, values[count:])])
    reactions = reactions_of(frame, values[2 * count:])
    return ("lightest", _volume_of(frame, pulls), pulls, reactions, velocities_of(frame, prices))


def _is_light(frame, load, answer):
    _, volume, pulls, reactions, moves = answer
    if not is_ratio(volume) or not is_pulls(frame, pulls) or not is_reactions(frame, reactions):
        return False
    if not is_grounded(frame, moves) or not are_forces(frame, load, pulls, reactions):
        return False
    rates = bar_rates(frame, moves)
    if any([minus(square, _size(speed))[0] < 0 for square, speed in zip(_squares(frame), rates)]):
        return False
    return _volume_of(frame, pulls) == volume and power(load, moves) == volume


def is_lightest(frame, load, answer):
    """True if the answer is a right one of `lightest`."""
    _check_light(frame, load)
    if not isinstance(answer, tuple) or len(answer) not in (2, 5):
        return False
    if len(answer) == 2:
        return answer[0] == "motion" and drives_motion(frame, load, answer[1])
    return answer[0] == "lightest" and _is_light(frame, load, answer)


def _is_offer(item):
    if not isinstance(item, tuple) or len(item) != 5:
        return False
    return all([is_name(part) for part in item[:3]]) and is_role(item[3]) and is_cost(item[4])


def _check_offers(frame, load, offers):
    need_frame(frame)
    need_load(load)
    if not isinstance(offers, list) or not all([_is_offer(item) for item in offers]):
        raise WrongKind("offers")
    if len(offers) > MOST_OFFERS:
        raise OutOfBounds("offers")
    bound_offers(frame, offers)
    need_new_bars(frame.bars + [offer[:4] for offer in offers])
    need_joints_of_load(frame, load)
    # The frame with all offers looks at what is left to check.
    with_bars(frame, [offer[:4] for offer in offers])


def _with_some(frame, offers, names):
    """The frame with the offers of these names."""
    return with_bars(frame, [offer[:4] for offer in offers if offer[0] in names])


def _all_sets(offers):
    """All sets of offers, each as the tuple (total cost, number, names), with integers in proportion to the costs."""
    found = [(0, 0, [])]
    for offer, cost in zip(offers, whole_row([offer[4] for offer in offers])):
        found = found + [(paid + cost, count + 1, [*names, offer[0]]) for paid, count, names in found]
    return found


def tie_up(frame, load, offers):
    """("held", bars, failures) with the cheapest offers that hold the load, or ("unheld", velocities)."""
    _check_offers(frame, load, offers)
    answer = hold(_with_some(frame, offers, [offer[0] for offer in offers]), load)
    if answer[0] == "motion":
        return ("unheld", answer[1])
    failures = []
    # The set of all offers is among these, so the loop ends with one that holds.
    for _, _, names in sorted(_all_sets(offers)):
        answer = hold(_with_some(frame, offers, names), load)
        if answer[0] == "forces":
            break
        failures.append((names, answer[1]))
    return ("held", names, failures)


def _is_failure(frame, load, offers, item):
    if not isinstance(item, tuple) or len(item) != 2 or not is_some(item[0], [offer[0] for offer in offers]):
        return False
    return is_hold(_with_some(frame, offers, item[0]), load, ("motion", item[1]))


def _is_covered(names, failures):
    """True if the names are among the bars of one of the failures."""
    return any([all([name in bars for name in names]) for bars, _ in failures])


def _is_held_by(frame, load, offers, bars, failures):
    if not is_some(bars, [offer[0] for offer in offers]) or not isinstance(failures, list):
        return False
    if hold(_with_some(frame, offers, bars), load)[0] != "forces":
        return False
    if not all([_is_failure(frame, load, offers, item) for item in failures]):
        return False
    sets = _all_sets(offers)
    most = [paid for paid, _, names in sets if names == bars][0]
    return all([_is_covered(names, failures) for paid, _, names in sets if paid < most])


def is_tie_up(frame, load, offers, answer):
    """True if the answer is a right one of `tie_up`."""
    _check_offers(frame, load, offers)
    if not isinstance(answer, tuple) or len(answer) not in (2, 3):
        return False
    if len(answer) == 2:
        everything = [offer[0] for offer in offers]
        return answer[0] == "unheld" and _is_failure(frame, load, offers, (everything, answer[1]))
    return answer[0] == "held" and _is_held_by(frame, load, offers, answer[1], answer[2])
