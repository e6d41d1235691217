"""Building tight frames step by step, and places in which a frame moves no more than its counts tell."""

from standframes.changes import bare
from standframes.checks import bar_names, joint_names, need_frame
from standframes.counting import Tally, is_tight
from standframes.counts import counted_freedom, crowd, kept_bars, missing_pairs
from standframes.elimination import null_values
from standframes.errors import BadSteps, OutOfBounds, WrongKind
from standframes.exact import NOUGHT
from standframes.frames import Frame, is_name, joined_pair
from standframes.spots import free_spot
from standframes.statics import bar_columns, freedom_of, pulls_of, rows_of

MOST_STEPS = 11
MOST_SPREAD = 8
NAMES_OF_STEP = {"start": 2, "add": 3, "split": 4}


def _is_step(item):
    if not isinstance(item, tuple) or not item or not isinstance(item[0], str) or item[0] not in NAMES_OF_STEP:
        return False
    return len(item) == NAMES_OF_STEP[item[0]] + 1 and all([is_name(part) for part in item[1:]])


def _is_steps(value):
    return isinstance(value, list) and all([_is_step(item) for item in value])


class Site:
    """What is set at the moment: joints, and the pairs of joints that have a bar."""

    def __init__(self):
        self.standing = {}
        self.linked = {}

    def allows(self, step):
        """True if the step can be done."""
        if step[0] == "start":
            return not self.standing and step[1] != step[2]
        near = step[2:]
        if step[1] in self.standing or any([name not in self.standing or near.count(name) > 1 for name in near]):
            return False
        return step[0] == "add" or joined_pair(step[2], step[3]) in self.linked

    def follow(self, step):
        """Does the step."""
        self.standing[step[1]] = True
        if step[0] == "start":
            self.standing[step[2]] = True
        if step[0] == "split":
            self.linked.pop(joined_pair(step[2], step[3]))
        for name in step[2:]:
            self.linked[joined_pair(step[1], name)] = True

    def links(self):
        return sorted(list(self.linked))


def _first_bad(site, steps):
    """The index of the first step that cannot be done, or None. The steps before it are done."""
    for at, step in enumerate(steps):
        if not site.allows(step):
            return at
        site.follow(step)
    return None if steps else 0


def built_pairs(steps):
    """The pairs of joints that have a bar after these steps."""
    if not _is_steps(steps):
        raise WrongKind("steps")
    if len(steps) > MOST_STEPS:
        raise OutOfBounds("steps")
    site = Site()
    bad = _first_bad(site, steps)
    if bad is not None:
        raise BadSteps(bad)
    return site.links()


def is_building(frame, value):
    """True if the value is building steps of the frame."""
    need_frame(frame)
    site = Site()
    if not _is_steps(value) or len(value) > MOST_STEPS or _first_bad(site, value) is not None:
        return False
    if sorted(list(site.standing)) != sorted(joint_names(frame)):
        return False
    return site.links() == sorted([joined_pair(one, other) for _, one, other, _ in frame.bars])


def _split_of(names, pairs, joint, near):
    """The step that sets the joint between these three, in a bar that leaves the pairs a sparse set."""
    tally = Tally(names)
    for one, other in pairs:
        tally.put(one, other)
    first, second, third = near
    ways = [(first, second, third), (first, third, second), (second, third, first)]
    one, other, last = [way for way in ways if tally.takes(way[0], way[1])][0]
    return ("split", joint, one, other, last)


def _steps_of(names, pairs):
    """Building steps for the joints and the bars between the pairs, which are known to be tight."""
    left = list(names)
    rest = list(pairs)
    steps = []
    while len(left) > 2:
        # Less than twice as many bars as joints: so some joint has at most three, and being tight, at least two.
        ends = [name for pair in rest for name in pair]
        joint = [name for name in left if ends.count(name) <= 3][0]
        near = [other if one == joint else one for one, other in rest if joint in (one, other)]
        left = [name for name in left if name != joint]
        rest = [pair for pair in rest if joint not in pair]
        if len(near) == 2:
            steps.append(("add", joint, near[0], near[1]))
        else:
            step = _split_of(left, rest, joint, near)
            steps.append(step)
            rest.append((step[2], step[3]))
    return [("start", left[0], left[1])] + steps[::-1]


def take_down(frame):
    """Building steps of a tight frame, or None."""
    need_frame(frame)
    names = joint_names(frame)
    if not is_tight(names, frame.bars):
        return None
    return _steps_of(names, [(one, other) for _, one, other, _ in frame.bars])


def crowd_stress(frame, bar):
    """An own stress in the crowd of the bar, or None if the bar is kept."""
    group = crowd(frame, bar)
    if group is None:
        return None
    names = bar_names(frame)
    kept = kept_bars(frame)
    inner = [name for name, one, other, _ in frame.bars if one in group and other in group]
    used = [name for name in names[:names.index(bar)] if name in kept and name in inner] + [bar]
    columns = bar_columns(frame)
    rows = rows_of([columns[names.index(name)] for name in used], 2 * len(frame.joints))
    # The crowd has more of these bars than its room: so at least one of them is free.
    found = {name: value for name, value in zip(used, null_values(rows, len(used))[0])}
    return pulls_of(frame, [found.get(name, NOUGHT) for name in names])


def spread(frame):
    """The frame with places in which its freedom without grounds is the counted one."""
    need_frame(frame)
    if len(frame.joints) > MOST_SPREAD:
        raise OutOfBounds("frame")
    names = joint_names(frame)
    if len(names) < 2:
        return frame
    # The kept bars and the missing pairs are tight. Where these bars have no own stress, the kept bars have none.
    pairs = [frame.ends(bar) for bar in kept_bars(frame)] + missing_pairs(frame)
    site = Site()
    places = {}
    for step in _steps_of(names, pairs):
        site.follow(step)
        for name in site.standing:
            if name not in places:
                places[name] = free_spot(places, name, site.links())
    joints = []
    for name in names:
        x, y = places[name]
        joints.append((name, x, y))
    return Frame(joints, frame.bars, grounds=frame.grounds)


def is_spread(frame, answer):
    """True if the answer is a spread of the frame."""
    need_frame(frame)
    if not isinstance(answer, Frame) or joint_names(answer) != joint_names(frame):
        return False
    if answer.bars != frame.bars or answer.grounds != frame.grounds:
        return False
    return freedom_of(bare(answer)) == counted_freedom(frame)
