"""Counts of bars in all groups of joints.

A group is an integer with one bit for each of its joints. A frame has at most 12 joints, so there are at most 4096
groups.
"""


def room_of(size):
    """The number of bars for which this many joints have room."""
    return 2 * size - 3 if size >= 2 else 0


class Tally:
    """For each group of joints, how many more bars it has room for beside those that were put in."""

    def __init__(self, names):
        self.bits = {}
        self.sizes = [0]
        for name in names:
            # The groups with a further joint follow those without it, in the same order.
            self.bits[name] = len(self.sizes)
            self.sizes = self.sizes + [size + 1 for size in self.sizes]
        self.left = [room_of(size) for size in self.sizes]

    def around(self, one, other):
        """The groups that hold two different joints."""
        pair = self.bits[one] + self.bits[other]
        return [group for group in range(len(self.left)) if group & pair == pair]

    def takes(self, one, other):
        """True if the bars that were put in, with a further one between these joints, are a sparse set."""
        return all([self.left[group] > 0 for group in self.around(one, other)])

    def put(self, one, other):
        """Counts a bar between these joints."""
        around = self.around(one, other)
        for group in around:
            self.left[group] -= 1

    def full_around(self, one, other):
        """The groups that hold these joints and have room for no further bar."""
        return [group for group in self.around(one, other) if self.left[group] == 0]

    def joints_in(self, group):
        """The names of the joints of the group, in order."""
        return [name for name, bit in self.bits.items() if group & bit != 0]

    def smallest(self, groups):
        """The one of the groups with the fewest joints."""
        return min([(self.sizes[group], group) for group in groups])[1]

    def largest(self, groups):
        """The one of the groups with the most joints."""
        return max([(self.sizes[group], group) for group in groups])[1]


def keep_bars(tally, bars):
    """Puts in the bars that are kept, in order, and returns their names."""
    kept = []
    for bar, one, other, _ in bars:
        if tally.takes(one, other):
            tally.put(one, other)
            kept.append(bar)
    return kept


def kept_before(frame, bar):
    """The tally of the bars that are kept before this one."""
    bars = frame.bars
    at = [name for name, _, _, _ in bars].index(bar)
    tally = Tally([name for name, _, _ in frame.joints])
    keep_bars(tally, bars[:at])
    return tally


def is_tight(names, bars):
    """True if the bars are a sparse set with as many bars as these joints, at least two, have room for."""
    if len(names) < 2 or len(bars) != room_of(len(names)):
        return False
    return len(keep_bars(Tally(names), bars)) == len(bars)
