"""Loads: forces at joints."""

from standframes.checks import need_frame, need_joints_there, need_pulls
from standframes.errors import OutOfBounds, UnknownName, WrongKind
from standframes.exact import NOUGHT, opposite, plus, sum_of, times
from standframes.frames import is_named_points, need_each_once, need_name
from standframes.points import ORIGIN, cross_product, difference, dot_product, stretched, sum_point
from standframes.ratios import is_ratio, need_ratio

MOST_FORCES = 24


class Forces:
    """Forces that the program itself has found. A load that is made of them has no bound."""

    def __init__(self, forces):
        self.forces = forces


def _given_forces(forces):
    """The list of forces of which a load is made."""
    if isinstance(forces, Forces):
        return forces.forces
    if not is_named_points(forces):
        raise WrongKind("forces")
    if len(forces) > MOST_FORCES:
        raise OutOfBounds("forces")
    return forces


def _entries(forces):
    """The entries of a load with these forces."""
    sums = {}
    for name, x, y in forces:
        sums[name] = sum_point(sums.get(name, ORIGIN), (x, y))
    return [(name, sums[name][0], sums[name][1]) for name in sorted(list(sums)) if sums[name] != ORIGIN]


def _turned_round(forces):
    return [(name, opposite(x), opposite(y)) for name, x, y in forces]


class Load:
    """A force for each of some joints. A load knows no frame and does not change."""

    def __init__(self, forces):
        self._rows = _entries(_given_forces(forces))

    @staticmethod
    def single(joint, x, y):
        """The load with this one force."""
        need_name(joint, "joint")
        need_ratio(x, "x")
        need_ratio(y, "y")
        return Load([(joint, x, y)])

    @property
    def entries(self):
        return list(self._rows)

    def force(self, joint):
        """The force at the joint, the zero point if there is none."""
        need_name(joint, "joint")
        for name, x, y in self._rows:
            if name == joint:
                return (x, y)
        return ORIGIN

    def count(self):
        """The number of entries."""
        return len(self._rows)

    def __iter__(self):
        return iter(self._rows)

    def __add__(self, other):
        if not isinstance(other, Load):
            raise WrongKind("other")
        return Load(Forces(self._rows + other._rows))

    def __sub__(self, other):
        if not isinstance(other, Load):
            raise WrongKind("other")
        return Load(Forces(self._rows + _turned_round(other._rows)))

    def __neg__(self):
        return Load(Forces(_turned_round(self._rows)))

    def __mul__(self, other):
        if not is_ratio(other):
            raise WrongKind("other")
        return Load(Forces([(name, times(x, other), times(y, other)) for name, x, y in self._rows]))

    def __eq__(self, other):
        return isinstance(other, Load) and self._rows == other._rows


def need_load(load):
    if not isinstance(load, Load):
        raise WrongKind("load")


def check_loaded(frame, load):
    """The checks of a function that is passed nothing but a frame and a load."""
    need_frame(frame)
    need_load(load)
    need_joints_of_load(frame, load)


def need_joints_of_load(frame, load):
    need_joints_there(frame, [name for name, _, _ in load.entries])


def load_of(forces):
    """The load of any number of forces (name, x, y)."""
    return Load(Forces(forces))


def power(load, velocities):
    """The power of the load under the velocities, a list of (name, x, y)."""
    need_load(load)
    if not is_named_points(velocities):
        raise WrongKind("velocities")
    need_each_once([name for name, _, _ in velocities])
    speeds = {name: (x, y) for name, x, y in velocities}
    for name, _, _ in load.entries:
        if name not in speeds:
            raise UnknownName(name)
    return sum_of([dot_product((x, y), speeds[name]) for name, x, y in load.entries])


def resultant(frame, load):
    """The sums (x, y, moment) over all forces of the load."""
    check_loaded(frame, load)
    along = NOUGHT
    up = NOUGHT
    moment = NOUGHT
    for name, x, y in load.entries:
        along = plus(along, x)
        up = plus(up, y)
        moment = plus(moment, cross_product(frame.place(name), (x, y)))
    return (along, up, moment)


def pair_load(frame, one, other):
    """The load that draws two joints apart: place minus place at the first, the opposite at the second."""
    need_frame(frame)
    need_name(one, "one")
    need_name(other, "other")
    need_joints_there(frame, [one, other])
    x, y = difference(frame.place(one), frame.place(other))
    return load_of([(one, x, y), (other, opposite(x), opposite(y))])


def pull_load(frame, pulls):
    """The load of the forces with which the bars act on their ends."""
    need_frame(frame)
    need_pulls(frame, pulls, "pulls")
    forces = []
    for bar, pull in pulls:
        one, other = frame.ends(bar)
        x, y = stretched(frame.span(bar), pull)
        forces.append((one, x, y))
        forces.append((other, opposite(x), opposite(y)))
    return load_of(forces)
