"""Walks along the bars of a frame, and what a cover tells of them. Places have no effect here."""

from standframes.checks import joint_names
from standframes.exact import NOUGHT, minus, plus


def runs_of(frame):
    """The runs of the frame in their order, each as a pair of joints."""
    runs = []
    for _, one, other, _ in frame.bars:
        runs.append((one, other))
        runs.append((other, one))
    return runs


def walk_runs(walk):
    """The runs of the walk, from each joint to the next one and from the last one to the first."""
    return list(zip(walk, walk[1:] + walk[:1]))


def left_walks(walks):
    """The index of the left walk of each run."""
    return {run: at for at, walk in enumerate(walks) for run in walk_runs(walk)}


def next_neighbours(walks):
    """For each pair of a joint and a neighbour, the neighbour that follows around the joint."""
    follows = {}
    for walk in walks:
        for before, after in zip(walk_runs(walk), walk_runs(walk[1:] + walk[:1])):
            follows[(before[1], before[0])] = after[1]
    return follows


def neighbours(frame, joint):
    """The other ends of the bars at the joint, in the order of the bars."""
    return [other if one == joint else one for _, one, other, _ in frame.bars if joint in (one, other)]


def around(follows, joint, first):
    """The neighbours of the joint from the first one on, until it comes again."""
    ring = [first]
    after = follows[(joint, first)]
    while after != first:
        ring.append(after)
        after = follows[(joint, after)]
    return ring


def is_connected(frame):
    """True if the frame has a joint and every joint is reached from the first one along bars."""
    names = joint_names(frame)
    if not names:
        return False
    reached = {names[0]: True}
    waiting = [names[0]]
    while waiting:
        near = neighbours(frame, waiting.pop())
        for other in near:
            if other not in reached:
                reached[other] = True
                waiting.append(other)
    return len(reached) == len(names)


def covers(frame, walks):
    """True if the walks, lists of names, are a cover of the frame."""
    bars = frame.bars
    if not bars or not is_connected(frame):
        return False
    if len(frame.joints) + len(walks) != len(bars) + 2 or any([len(walk) < 2 for walk in walks]):
        return False
    if sorted([run for walk in walks for run in walk_runs(walk)]) != sorted(runs_of(frame)):
        return False
    # Each run occurs once, so each neighbour follows exactly one: the first one comes again for certain.
    follows = next_neighbours(walks)
    for joint in joint_names(frame):
        near = neighbours(frame, joint)
        if len(around(follows, joint, near[0])) != len(near):
            return False
    return True


def bar_sides(frame, walks):
    """For each bar, the indexes of its left and its right walk in a cover."""
    left = left_walks(walks)
    return [(left[(one, other)], left[(other, one)]) for _, one, other, _ in frame.bars]


def side_values(sides, steps, count):
    """A tuple of ratios for each walk of a cover: zeros for the first, and for each bar left minus right is its step.

    The steps, one for each bar, are known to add up to zero around each joint. So it is the same along which bars
    they are added up.
    """
    found = {0: tuple([NOUGHT for _ in steps[0]])}
    while len(found) < count:
        for (left, right), step in zip(sides, steps):
            if right in found and left not in found:
                found[left] = tuple([plus(x, y) for x, y in zip(found[right], step)])
            elif left in found and right not in found:
                found[right] = tuple([minus(x, y) for x, y in zip(found[left], step)])
    return [found[at] for at in range(count)]
