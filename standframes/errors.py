"""The errors of the program.

No message shows a number: Python refuses to write out very long integers, and an error must be made all the same.
"""


def _told(value):
    return f": {value}" if isinstance(value, str) else ""


class FrameError(ValueError):
    """The base of all errors of the program."""


class WrongKind(FrameError):
    """An argument is not of its kind."""

    def __init__(self, argument):
        super().__init__(f"wrong kind{_told(argument)}")
        self.argument = argument


class OutOfBounds(FrameError):
    """A count, a length or a number is out of its bounds."""

    def __init__(self, argument):
        super().__init__(f"out of bounds{_told(argument)}")
        self.argument = argument


class RepeatedName(FrameError):
    """A name that must be new or must occur once is there already."""

    def __init__(self, repeated):
        super().__init__(f"repeated{_told(repeated)}")
        self.repeated = repeated


class UnknownName(FrameError):
    """A joint, a bar or a load of that name is not there."""

    def __init__(self, unknown):
        super().__init__(f"unknown{_told(unknown)}")
        self.unknown = unknown


class UnfitError(FrameError):
    """The base of the errors of the last round."""

    def __init__(self, subject=None):
        super().__init__(f"does not fit{_told(subject)}")
        self.subject = subject


class ZeroDivisor(UnfitError):
    """A division by zero."""


class NegativeRoot(UnfitError):
    """A root of a negative ratio, the subject."""


class ZeroBar(UnfitError):
    """The bar has both ends at one place."""


class FlatMap(UnfitError):
    """A map of the plane that has no way back."""


class BadSteps(UnfitError):
    """The step with this index cannot be done."""


class NotOneWay(UnfitError):
    """The bar is a rod."""


class NotHeld(UnfitError):
    """The frame does not hold the load."""


class NotFlat(UnfitError):
    """The frame is not flat."""


class NotCover(UnfitError):
    """The walks are no cover of the frame."""


class NotOwnStress(UnfitError):
    """The pulls are no own stress of the frame."""


class NotPicture(UnfitError):
    """The points are no picture: the bar shows it."""


class NotLift(UnfitError):
    """The planes are no lift."""


class NoReciprocal(UnfitError):
    """The frame has no reciprocal: the bar shows it."""


class NotMotion(UnfitError):
    """The velocities are no motion of the frame."""


class NotAlike(UnfitError):
    """The two frames are not alike."""


class NotCrank(UnfitError):
    """The bar is no crank."""


class NothingToUndo(UnfitError):
    """A yard has no record."""


class NothingToRedo(UnfitError):
    """A yard has no deed to redo."""


class Unsafe(FrameError):
    """A deed would break the rule of its yard, as the velocities show."""

    def __init__(self, velocities):
        super().__init__("unsafe")
        self.velocities = list(velocities)


class BadText(FrameError):
    """A text has a fault in this line, at this column."""

    def __init__(self, line, column, fault):
        super().__init__(f"bad text{_told(fault)}")
        self.line = line
        self.column = column
        self.fault = fault
