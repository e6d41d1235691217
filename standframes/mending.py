"""Bars that are spare, and bars that are to be added: which may go, and which are needed."""

from standframes.changes import without_bar
from standframes.checks import bar_names, is_names, is_pulls, is_reactions, need_bar_there, need_frame
from standframes.elimination import null_values, plain_solution, refusal, whole_row
from standframes.errors import OutOfBounds, WrongKind
from standframes.exact import NOUGHT, UNIT, minus, opposite
from standframes.frames import Frame, is_name, need_name, need_new_bars
from standframes.loads import Load
from standframes.motions import motions
from standframes.points import ORIGIN
from standframes.ratios import is_ratio
from standframes.statics import (
    are_forces, bar_columns, bar_rates, freedom_of, ground_columns, is_grounded, is_motion_of, pulls_of, reactions_of,
    rows_of, velocities_of,
)


def is_cost(value):
    """True if the value is a ratio that is not negative."""
    return is_ratio(value) and value[0] >= 0


def _system(frame, bar, others):
    """(rows, right, used): the balance of the joints when the pull of the bar is 1.

    The unknowns are the pulls of the others, whose indexes are `used`, and then those of the reactions.
    """
    names = bar_names(frame)
    columns = bar_columns(frame)
    used = [at for at, name in enumerate(names) if name in others]
    right = [opposite(item) for item in columns[names.index(bar)]]
    return rows_of([columns[at] for at in used] + ground_columns(frame), len(right)), right, used


def _width(frame, used):
    return len(used) + len(ground_columns(frame))


def _stressed_by(frame, bar, others):
    """Forces for the zero load with the pull 1 in the bar and other pulls only in these others, or None."""
    rows, right, used = _system(frame, bar, others)
    values = plain_solution(rows, right, _width(frame, used))
    if values is None:
        return None
    pulls = {at: value for at, value in zip(used, values)}
    pulls[bar_names(frame).index(bar)] = UNIT
    held = [pulls.get(at, NOUGHT) for at in range(len(frame.bars))]
    return (pulls_of(frame, held), reactions_of(frame, values[len(used):]))


def _other_bars(frame, bar):
    return [name for name in bar_names(frame) if name != bar]


def _check_bar(frame, bar):
    need_frame(frame)
    need_name(bar, "bar")
    need_bar_there(frame, bar)


def spare(frame, bar):
    """("spare", pulls, reactions) without load and with a pull in the bar, or ("needed", velocities) without it."""
    _check_bar(frame, bar)
    others = _other_bars(frame, bar)
    found = _stressed_by(frame, bar, others)
    if found is not None:
        pulls, reactions = found
        return ("spare", pulls, reactions)
    rows, right, used = _system(frame, bar, others)
    return ("needed", velocities_of(frame, refusal(rows, right, _width(frame, used))))


def _is_stress_with(frame, bar, pulls, reactions):
    """True if these are forces for the zero load with the pull 1 in the bar."""
    if not is_pulls(frame, pulls) or not is_reactions(frame, reactions) or (bar, UNIT) not in pulls:
        return False
    return are_forces(frame, Load([]), pulls, reactions)


def _is_need(frame, bar, value):
    """True if the value is velocities that keep every ground, with the rate 1 in the bar and 0 in the others."""
    due = [UNIT if name == bar else NOUGHT for name in bar_names(frame)]
    return is_grounded(frame, value) and bar_rates(frame, value) == due


def is_spare(frame, bar, answer):
    """True if the answer is a right one of `spare`."""
    _check_bar(frame, bar)
    if not isinstance(answer, tuple) or len(answer) not in (2, 3):
        return False
    if len(answer) == 2:
        return answer[0] == "needed" and _is_need(frame, bar, answer[1])
    return answer[0] == "spare" and _is_stress_with(frame, bar, answer[1], answer[2])


def _spare_of(frame):
    """The bars with a pull in some forces for the zero load."""
    columns = bar_columns(frame) + ground_columns(frame)
    found = null_values(rows_of(columns, 2 * len(frame.joints)), len(columns))
    return [name for at, name in enumerate(bar_names(frame)) if any([values[at][0] != 0 for values in found])]


def spare_bars(frame):
    """The names of the bars without which the frame has the same freedom."""
    need_frame(frame)
    return _spare_of(frame)


def _need_costs(frame, costs):
    if not is_pulls(frame, costs) or not all([is_cost(cost) for _, cost in costs]):
        raise WrongKind("costs")


def by_cost(named):
    """The names of a list of (name, cost) in ascending order of the costs, and of the list where they are equal."""
    whole = whole_row([cost for _, cost in named])
    return [named[at][0] for _, at in sorted([(cost, at) for at, cost in enumerate(whole)])]


def _without(frame, bars):
    """The frame without these bars."""
    return Frame(frame.joints, [row for row in frame.bars if row[0] not in bars], grounds=frame.grounds)


def thin(frame, costs):
    """("gone", bars, certificates): bars of the greatest total cost that may go together."""
    need_frame(frame)
    _need_costs(frame, costs)
    stay = []
    found = {}
    for bar in by_cost(costs):
        stress = _stressed_by(frame, bar, stay)
        if stress is None:
            stay.append(bar)
        else:
            found[bar] = stress
    gone = [bar for bar in bar_names(frame) if bar in found]
    return ("gone", gone, [(bar, found[bar][0], found[bar][1]) for bar in gone])


def _is_certificate(frame, item, bar, allowed):
    """True if the item is a certificate for the bar, with other pulls only in the bars that are allowed."""
    if not isinstance(item, tuple) or len(item) != 3 or item[0] != bar:
        return False
    if not _is_stress_with(frame, bar, item[1], item[2]):
        return False
    return all([pull[0] == 0 or name == bar or name in allowed for name, pull in item[1]])


def _are_certificates(frame, value, bars, allowed):
    """True if the value is a list of certificates, one for each of the bars; allowed has a list for each of them."""
    if not isinstance(value, list) or len(value) != len(bars):
        return False
    return all([_is_certificate(frame, item, bar, allowed[bar]) for item, bar in zip(value, bars)])


def is_some(value, names):
    """True if the value is a list of some of the names, each once, in their order."""
    return is_names(value) and value == [name for name in names if name in value]


def _not_dearer(costs, bar):
    """The names whose cost is not greater than that of the bar. The costs are a dict."""
    return [name for name, cost in costs.items() if minus(costs[bar], cost)[0] >= 0]


def is_thin(frame, costs, answer):
    """True if the answer is a right one of `thin`."""
    need_frame(frame)
    _need_costs(frame, costs)
    if not isinstance(answer, tuple) or len(answer) != 3 or answer[0] != "gone":
        return False
    gone = answer[1]
    if not is_some(gone, bar_names(frame)):
        return False
    rest = _without(frame, gone)
    if freedom_of(rest) != freedom_of(frame) or _spare_of(rest) != []:
        return False
    paid = {bar: cost for bar, cost in costs}
    allowed = {bar: [name for name in _not_dearer(paid, bar) if name not in gone] for bar in gone}
    return _are_certificates(frame, answer[2], gone, allowed)


def _is_offer(item):
    if not isinstance(item, tuple) or len(item) != 4:
        return False
    return all([is_name(part) for part in item[:3]]) and is_cost(item[3])


def need_offers(offers):
    if not isinstance(offers, list) or not all([_is_offer(item) for item in offers]):
        raise WrongKind("offers")


def bound_offers(frame, offers):
    if len(frame.bars) + len(offers) > Frame.MOST_BARS:
        raise OutOfBounds("offers")


def with_bars(frame, bars):
    """The frame with these further bars."""
    return Frame(frame.joints, frame.bars + bars, grounds=frame.grounds)


def _rods(offers):
    return [(bar, one, other, "rod") for bar, one, other, _ in offers]


def offered(frame, offers):
    """The frame with all offers as further bars."""
    need_frame(frame)
    need_offers(offers)
    bound_offers(frame, offers)
    return with_bars(frame, _rods(offers))


def mend(frame, offers):
    """("mended", bars, certificates) with the cheapest offers, or ("beyond", velocities)."""
    whole = offered(frame, offers)
    used = bar_names(frame)
    found = {}
    chosen = []
    for bar in by_cost([(offer[0], offer[3]) for offer in offers]):
        stress = _stressed_by(whole, bar, used + chosen)
        if stress is None:
            chosen.append(bar)
        else:
            found[bar] = stress
    if len(chosen) < freedom_of(frame):
        return ("beyond", motions(whole)[0])
    names = [offer[0] for offer in offers]
    certificates = [(bar, found[bar][0], found[bar][1]) for bar in names if bar in found]
    return ("mended", [bar for bar in names if bar in chosen], certificates)


def _moves_at_all(velocities):
    return any([(x, y) != ORIGIN for _, x, y in velocities])


def _is_mended(frame, whole, offers, bars, certificates):
    names = [offer[0] for offer in offers]
    if not is_some(bars, names) or len(bars) != freedom_of(frame):
        return False
    left = [name for name in names if name not in bars]
    if freedom_of(_without(whole, left)) != 0:
        return False
    paid = {offer[0]: offer[3] for offer in offers}
    used = bar_names(frame)
    allowed = {bar: used + [name for name in _not_dearer(paid, bar) if name in bars] for bar in left}
    return _are_certificates(whole, certificates, left, allowed)


def is_mend(frame, offers, answer):
    """True if the answer is a right one of `mend`."""
    whole = offered(frame, offers)
    if not isinstance(answer, tuple) or len(answer) not in (2, 3):
        return False
    if len(answer) == 2:
        return answer[0] == "beyond" and is_motion_of(whole, answer[1]) and _moves_at_all(answer[1])
    return answer[0] == "mended" and _is_mended(frame, whole, offers, answer[1], answer[2])


def replacing(frame, bar, offers):
    """The names of the offers with which the frame, without the bar, has no greater freedom than with it."""
    need_frame(frame)
    need_name(bar, "bar")
    need_offers(offers)
    bound_offers(frame, offers)
    need_new_bars(frame.bars + _rods(offers))
    need_bar_there(frame, bar)
    # The whole frame with the offers looks at all that is left to check.
    with_bars(frame, _rods(offers))
    rest = without_bar(frame, bar)
    most = freedom_of(frame)
    return [row[0] for row in _rods(offers) if freedom_of(with_bars(rest, [row])) <= most]
