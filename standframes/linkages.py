"""Linkages: the joints of a frame placed anew, one after the other, when a crank is turned or bars are changed."""

from standframes.checks import is_velocities, joint_names, keeps_ground, need_bar_there, need_frame
from standframes.errors import NotCrank, OutOfBounds, RepeatedName, WrongKind
from standframes.frames import is_name, need_name
from standframes.placing import is_positive, meet_line_of, meet_of, turned_point
from standframes.points import cross_sign, difference, dot_sign, squared_length
from standframes.ratios import is_ratio, need_ratio_list

MOST_DIGITS = 200
MOST_TANGENTS = 12


def _is_turn(value):
    return isinstance(value, tuple) and len(value) == 2 and is_name(value[0]) and is_ratio(value[1])


def _is_square(item):
    return isinstance(item, tuple) and len(item) == 2 and is_name(item[0]) and is_positive(item[1])


def _hub_and_pin(frame, bar):
    """The hub and the pin of a crank, or None if the bar is no crank."""
    one, other = frame.ends(bar)
    for hub, pin in ((one, other), (other, one)):
        if frame.across(hub) == "fixed" and frame.across(pin) is None:
            return (hub, pin)
    return None


def _need_crank(frame, bar):
    if _hub_and_pin(frame, bar) is None:
        raise NotCrank(bar)


def _check_positions(frame, turn, squares):
    need_frame(frame)
    if turn is not None and not _is_turn(turn):
        raise WrongKind("turn")
    if squares is not None and not isinstance(squares, list):
        raise WrongKind("squares")
    given = [] if squares is None else squares
    if not all([_is_square(item) for item in given]):
        raise WrongKind("squares")
    turned = [] if turn is None else [turn[0]]
    told = list(turned)
    for bar, _ in given:
        if bar in told:
            raise RepeatedName(bar)
        told.append(bar)
    for bar in told:
        need_bar_there(frame, bar)
    for bar in turned:
        _need_crank(frame, bar)


def _far_end(frame, bar, joint):
    one, other = frame.ends(bar)
    return other if one == joint else one


def _start_joints(frame, crank):
    """The joints that are placed at first: the fixed ones, and the pin of the crank if there is one."""
    fixed = [joint for joint in joint_names(frame) if frame.across(joint) == "fixed"]
    return fixed if crank is None else [*fixed, _hub_and_pin(frame, crank)[1]]


def _placing_of(frame, placed, joint):
    """The placing that places the joint beside those that are placed, or None."""
    near = [bar for bar in frame.bars_at(joint) if _far_end(frame, bar, joint) in placed]
    if frame.across(joint) is not None:
        return ("slide", joint, near[0]) if near else None
    return ("meet", joint, near[0], near[1]) if len(near) >= 2 else None


def _next_placing(frame, placed):
    for joint in joint_names(frame):
        if joint not in placed:
            placing = _placing_of(frame, placed, joint)
            if placing is not None:
                return placing
    return None


def _course_of(frame, crank):
    placed = {joint: True for joint in _start_joints(frame, crank)}
    placings = []
    placing = _next_placing(frame, placed)
    while placing is not None:
        placings.append(placing)
        placed[placing[1]] = True
        placing = _next_placing(frame, placed)
    left = [joint for joint in joint_names(frame) if joint not in placed]
    return ("stuck", left) if left else ("placings", placings)


def course(frame, *, crank=None):
    """("placings", placings): how the joints are placed one after the other, or ("stuck", joints)."""
    need_frame(frame)
    if crank is not None:
        need_name(crank, "crank")
        need_bar_there(frame, crank)
        _need_crank(frame, crank)
    return _course_of(frame, crank)


def _pin_place(frame, turn):
    """The pin of the crank, and its place when it is turned."""
    bar, tangent = turn
    hub, pin = _hub_and_pin(frame, bar)
    return pin, turned_point(frame.place(pin), frame.place(hub), tangent)


def _start_places(frame, turn):
    places = {joint: frame.place(joint) for joint in _start_joints(frame, None)}
    if turn is not None:
        pin, place = _pin_place(frame, turn)
        places[pin] = place
    return places


def _due_squares(frame, squares):
    """The squared length that each bar has to have."""
    given = {} if squares is None else {bar: square for bar, square in squares}
    return {bar: given.get(bar, frame.squared(bar)) for bar, _, _, _ in frame.bars}


def _meet_result(frame, places, due, placing):
    _, joint, bar, other_bar = placing
    first = _far_end(frame, bar, joint)
    second = _far_end(frame, other_bar, joint)
    start = frame.place(first)
    side = cross_sign(difference(frame.place(second), start), difference(frame.place(joint), start))
    return meet_of(places[first], places[second], due[bar], due[other_bar], 1 if side == 0 else side)


def _slide_result(frame, places, due, placing):
    _, joint, bar = placing
    end = _far_end(frame, bar, joint)
    direction = frame.across(joint)
    place = frame.place(joint)
    side = dot_sign(direction, difference(place, frame.place(end)))
    return meet_line_of(place, direction, places[end], due[bar], 1 if side == 0 else side)


def _result_of(frame, places, due, placing):
    """What `meet` or `meet_line` returns for the placing."""
    if placing[0] == "meet":
        return _meet_result(frame, places, due, placing)
    return _slide_result(frame, places, due, placing)


def _is_wide(point):
    """True if a part of the point has too many digits."""
    # Python refuses to write out very long integers, so their digits are not counted there.
    bound = int("1" + "0" * MOST_DIGITS)
    return any([abs(part) >= bound for one in point for part in one])


def _in_rows(places):
    """A list of (joint, x, y) from a dict of points, in its order."""
    return [(joint, x, y) for joint, (x, y) in places.items()]


def _all_placed(frame, places, due):
    """The answer when each joint has its place."""
    rows = []
    for joint in joint_names(frame):
        x, y = places[joint]
        rows.append((joint, x, y))
    bar = _first_strained(frame, places, due)
    return ("places", rows) if bar is None else ("strained", bar, rows)


def _first_strained(frame, places, due):
    """The first bar whose ends do not have their due squared distance, or None."""
    for bar, one, other, _ in frame.bars:
        if squared_length(difference(places[one], places[other])) != due[bar]:
            return bar
    return None


def _positions_of(frame, turn, squares):
    """What `positions` returns."""
    word, told = _course_of(frame, None if turn is None else turn[0])
    if word == "stuck":
        return (word, told)
    due = _due_squares(frame, squares)
    places = _start_places(frame, turn)
    for placing in told:
        joint = placing[1]
        result = _result_of(frame, places, due, placing)
        if result[0] == "root":
            return ("root", joint, result, _in_rows(places))
        if result[0] != "at":
            return (result[0], joint, _in_rows(places))
        if _is_wide(result[1]):
            return ("wide", joint, _in_rows(places))
        places[joint] = result[1]
    return _all_placed(frame, places, due)


def positions(frame, *, turn=None, squares=None):
    """("places", places) with the joints placed anew, or where and why this came to its end."""
    _check_positions(frame, turn, squares)
    return _positions_of(frame, turn, squares)


def _stays_on(frame, joint, across, place):
    """True if the joint, when it is at this place, is still in its ground."""
    return keeps_ground(across, difference(place, frame.place(joint)))


def fits_positions(frame, value, *, turn=None, squares=None):
    """True if the value is places that fit."""
    _check_positions(frame, turn, squares)
    if not is_velocities(frame, value):
        return False
    places = {joint: (x, y) for joint, x, y in value}
    if not all([_stays_on(frame, joint, across, places[joint]) for joint, across in frame.grounds]):
        return False
    if turn is not None:
        pin, place = _pin_place(frame, turn)
        if places[pin] != place:
            return False
    return _first_strained(frame, places, _due_squares(frame, squares)) is None


def sweep(frame, crank, tangents):
    """What `positions` returns when the crank is turned by each of the tangents."""
    need_frame(frame)
    need_name(crank, "crank")
    need_ratio_list(tangents, "tangents")
    if len(tangents) > MOST_TANGENTS:
        raise OutOfBounds("tangents")
    need_bar_there(frame, crank)
    _need_crank(frame, crank)
    return [_positions_of(frame, (crank, tangent), None) for tangent in tangents]
