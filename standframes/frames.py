"""Frames: joints in the plane, bars between them, and grounds that hold them."""

from standframes.errors import OutOfBounds, RepeatedName, UnknownName, WrongKind, ZeroBar
from standframes.points import difference, is_direction, squared_length
from standframes.ratios import is_ratio

ROLES = ("rod", "tie", "prop")
FIRST_MARKS = "abcdefghijklmnopqrstuvwxyz"
MARKS = "abcdefghijklmnopqrstuvwxyz0123456789"


def is_name(value):
    """True if the value is a name, otherwise False."""
    if not isinstance(value, str) or not 1 <= len(value) <= 8:
        return False
    return value[0] in FIRST_MARKS and all([mark in MARKS for mark in value])


def need_name(value, argument):
    if not is_name(value):
        raise WrongKind(argument)


def is_across(value):
    """True if the value is "fixed" or a direction."""
    return value == "fixed" or is_direction(value)


def is_role(value):
    return value in ROLES


def is_named_points(value):
    """True if the value is a list of (name, ratio, ratio)."""
    return isinstance(value, list) and all([_is_named_point(item) for item in value])


def _is_named_point(item):
    return isinstance(item, tuple) and len(item) == 3 and is_name(item[0]) and is_ratio(item[1]) and is_ratio(item[2])


def _is_bar(item):
    if not isinstance(item, tuple) or len(item) != 4:
        return False
    return all([is_name(part) for part in item[:3]]) and is_role(item[3])


def _is_ground(item):
    return isinstance(item, tuple) and len(item) == 2 and is_name(item[0]) and is_across(item[1])


def _need_kinds(joints, bars, grounds):
    if not is_named_points(joints):
        raise WrongKind("joints")
    if not isinstance(bars, list) or not all([_is_bar(item) for item in bars]):
        raise WrongKind("bars")
    if grounds is None:
        return
    if not isinstance(grounds, list) or not all([_is_ground(item) for item in grounds]):
        raise WrongKind("grounds")


def need_each_once(names):
    """Raises RepeatedName for the first of the names that occurred before."""
    seen = {}
    for name in names:
        if name in seen:
            raise RepeatedName(name)
        seen[name] = True


def joined_pair(one, other):
    """The two names in an order that is the same for both directions of a bar."""
    return (one, other) if one <= other else (other, one)


def need_new_bars(bars):
    """Raises RepeatedName for the first bar whose name, or whose two joints, occurred before."""
    names = {}
    pairs = {}
    for name, one, other, _ in bars:
        pair = joined_pair(one, other)
        if name in names or pair in pairs:
            raise RepeatedName(name)
        names[name] = True
        pairs[pair] = True


def _need_known(joints, bars, grounds):
    known = {name: True for name, _, _ in joints}
    for _, one, other, _ in bars:
        for name in (one, other):
            if name not in known:
                raise UnknownName(name)
    for name, _ in grounds:
        if name not in known:
            raise UnknownName(name)


def _need_length(joints, bars):
    places = {name: (x, y) for name, x, y in joints}
    for name, one, other, _ in bars:
        if places[one] == places[other]:
            raise ZeroBar(name)


class Frame:
    """Joints, bars and grounds, each in a fixed order. A frame does not change."""

    MOST_JOINTS = 12
    MOST_BARS = 30

    def __init__(self, joints, bars, *, grounds=None):
        _need_kinds(joints, bars, grounds)
        if len(joints) > Frame.MOST_JOINTS:
            raise OutOfBounds("joints")
        if len(bars) > Frame.MOST_BARS:
            raise OutOfBounds("bars")
        held = [] if grounds is None else list(grounds)
        need_each_once([name for name, _, _ in joints])
        need_new_bars(bars)
        need_each_once([name for name, _ in held])
        _need_known(joints, bars, held)
        _need_length(joints, bars)
        self._joints = list(joints)
        self._bars = list(bars)
        self._grounds = held
        self._places = {name: (x, y) for name, x, y in joints}
        self._lines = {name: (one, other, role) for name, one, other, role in bars}

    @property
    def joints(self):
        return list(self._joints)

    @property
    def bars(self):
        return list(self._bars)

    @property
    def grounds(self):
        return list(self._grounds)

    def _need_joint(self, joint):
        need_name(joint, "joint")
        self._need_there(joint)

    def _need_there(self, joint):
        if joint not in self._places:
            raise UnknownName(joint)

    def _need_bar(self, bar):
        need_name(bar, "bar")
        if bar not in self._lines:
            raise UnknownName(bar)

    def place(self, joint):
        """The point of the joint."""
        self._need_joint(joint)
        return self._places[joint]

    def across(self, joint):
        """The word "fixed", the direction of a sliding joint, or None."""
        self._need_joint(joint)
        for name, across in self._grounds:
            if name == joint:
                return across
        return None

    def ends(self, bar):
        """The tuple (one, other) of the joints of the bar."""
        self._need_bar(bar)
        one, other, _ = self._lines[bar]
        return (one, other)

    def role(self, bar):
        self._need_bar(bar)
        return self._lines[bar][2]

    def span(self, bar):
        """The place of the end `other` minus the place of the end `one`."""
        one, other = self.ends(bar)
        return difference(self._places[other], self._places[one])

    def squared(self, bar):
        """The squared length of the bar."""
        return squared_length(self.span(bar))

    def bars_at(self, joint):
        """The names of the bars with this end, in order."""
        self._need_joint(joint)
        return [name for name, one, other, _ in self._bars if joint in (one, other)]

    def bar_between(self, one, other):
        """The name of the bar with these two ends, in either order, or None."""
        need_name(one, "one")
        need_name(other, "other")
        self._need_there(one)
        self._need_there(other)
        pair = joined_pair(one, other)
        for name, first, second, _ in self._bars:
            if joined_pair(first, second) == pair:
                return name
        return None

    def __eq__(self, other):
        return (
            isinstance(other, Frame) and self._joints == other._joints
            and self._bars == other._bars and self._grounds == other._grounds
        )

    def __contains__(self, value):
        return is_name(value) and value in self._places
