"""Yards: frames and loads that are built deed by deed, under a rule."""

from standframes.checks import need_frame
from standframes.deeds import after, is_deed, need_names_of, new_bars, new_joints
from standframes.errors import NothingToRedo, NothingToUndo, OutOfBounds, Unsafe, WrongKind
from standframes.forces import carry
from standframes.frames import Frame
from standframes.loads import Load, need_joints_of_load, need_load
from standframes.motions import motions
from standframes.oneway import hold
from standframes.ratios import is_integer

RULES = ("free", "carry", "hold", "stand")


def need_rule(rule, listed):
    if rule not in listed:
        raise WrongKind("rule")


def danger(frame, load, rule):
    """Velocities that show that the frame and the load break the rule, or None if they keep it."""
    if rule == "stand":
        found = motions(frame)
        return found[0] if found else None
    if rule == "free":
        return None
    answer = carry(frame, load) if rule == "carry" else hold(frame, load)
    return answer[1] if answer[0] == "motion" else None


def keeps(frame, load, rule):
    """True if the frame and the load keep the rule."""
    need_frame(frame)
    need_load(load)
    need_rule(rule, RULES)
    need_joints_of_load(frame, load)
    return danger(frame, load, rule) is None


class Yard:
    """A frame and a load that are built by deeds. Each deed can be taken back and done again."""

    MOST_RECORDS = 40

    def __init__(self, *, rule="free"):
        need_rule(rule, RULES)
        self._rule = rule
        self._done = []
        # What the frame and the load were before each record, and at the end what they are.
        self._states = [(Frame([], []), Load([]))]
        # The deeds that can be done again, each with the frame and the load after it; the next one is the last.
        self._undone = []

    @staticmethod
    def replayed(deeds, rule):
        """A new yard with this rule that has done these deeds."""
        if not isinstance(deeds, list):
            raise WrongKind("deeds")
        yard = Yard(rule=rule)
        for deed in deeds:
            yard.work(deed)
        return yard

    @property
    def rule(self):
        return self._rule

    @property
    def records(self):
        return list(self._done)

    @property
    def frame(self):
        return self._states[-1][0]

    @property
    def load(self):
        return self._states[-1][1]

    def _need_room(self, deed):
        if len(self._done) >= Yard.MOST_RECORDS:
            raise OutOfBounds("deed")
        if len(self.frame.joints) + len(new_joints(deed)) > Frame.MOST_JOINTS:
            raise OutOfBounds("deed")
        if len(self.frame.bars) + len(new_bars(deed)) > Frame.MOST_BARS:
            raise OutOfBounds("deed")

    def work(self, deed):
        """Does the deed. Returns the number of records after it."""
        if not is_deed(deed):
            raise WrongKind("deed")
        self._need_room(deed)
        need_names_of(self.frame, deed)
        frame, load = after(self.frame, self.load, deed)
        velocities = danger(frame, load, self._rule)
        if velocities is not None:
            raise Unsafe(velocities)
        self._done.append(deed)
        self._states.append((frame, load))
        self._undone = []
        return len(self._done)

    def undo(self):
        """Takes back the last record, and returns it."""
        if not self._done:
            raise NothingToUndo()
        deed = self._done.pop()
        self._undone.append((deed, self._states.pop()))
        return deed

    def redo(self):
        """Does again the deed that was undone last, and returns it."""
        if not self._undone:
            raise NothingToRedo()
        deed, state = self._undone.pop()
        self._done.append(deed)
        self._states.append(state)
        return deed

    def count(self):
        """The number of records."""
        return len(self._done)

    def __iter__(self):
        return iter(self._done)

    def state(self, number):
        """The frame and the load after this many records."""
        if not is_integer(number):
            raise WrongKind("number")
        if not 0 <= number <= len(self._done):
            raise OutOfBounds("number")
        return self._states[number]

    def twin(self):
        """A new yard with the same rule, the same records and the same deeds to redo."""
        yard = Yard(rule=self._rule)
        yard._done = list(self._done)
        yard._states = list(self._states)
        yard._undone = list(self._undone)
        return yard

    def __eq__(self, other):
        return isinstance(other, Yard) and self._rule == other._rule and self._done == other._done
