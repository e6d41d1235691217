"""Walks along the bars of a frame, and what a cover tells of them. Places have no effect here."""

from standframes.checks import joint_names


def runs_of(frame):
    """The runs of the frame in their order, each as a pair of joints."""
    runs = []
    for _, one, other, _ in frame.bars:
        runs.append((one, other))
        runs.append((other, one))
    return runs


def walk_runs(walk):
    """The runs of the walk, from each joint to the next one and from the last one to the first."""
    return list(zip(walk, walk[1:] + walk[:1]))


def left_walks(walks):
    """The index of the left walk of each run."""
    return {run: at for at, walk in enumerate(walks) for run in walk_runs(walk)}


def next_neighbours(walks):
    """For each pair of a joint and a neighbour, the neighbour that follows around the joint."""
    follows = {}
    for walk in walks:
        for before, after in zip(walk_runs(walk), walk_runs(walk[1:] + walk[:1])):
            follows[(before[1], before[0])] = after[1]
    return follows


def neighbours(frame, joint):
    """The other ends of the bars at the joint, in the order of the bars."""
    return [other if one == joint else one for _, one, other, _ in frame.bars if joint in (one, other)]


def around(follows, joint, first):
    """The neighbours of the joint from the first one on, until it comes again."""
    ring = [first]
    after = follows[(joint, first)]
    while after != first:
        ring.append(after)
        after = follows[(joint, after)]
    return ring


def is_connected(frame):
    """True if the frame has a joint and every joint is reached from the first one along bars."""
    names = joint_names(frame)
    if not names:
        return False
    reached = {names[0]: True}
    waiting = [names[0]]
    while waiting:
        near = neighbours(frame, waiting.pop())
        for other in near:
            if other not in reached:
                reached[other] = True
                waiting.append(other)
    return len(reached) == len(names)


def covers(frame, walks):
    """True if the walks, lists of names, are a cover of the frame."""
    bars = frame.bars
    if not bars or not is_connected(frame):
        return False
    if len(frame.joints) + len(walks) != len(bars) + 2 or any([len(walk) < 2 for walk in walks]):
        return False
    if sorted([run for walk in walks for run in walk_runs(walk)]) != sorted(runs_of(frame)):
        return False
    # Each run occurs once, so each neighbour follows exactly one: the first one comes again for certain.
    follows = next_neighbours(walks)
    for joint in joint_names(frame):
        near = neighbours(frame, joint)
        if len(around(follows, joint, near[0])) != len(near):
            return False
    return True
