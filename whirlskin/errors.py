"""The errors of the package. Those with a value keep it in an attribute of that name."""


class NoCorner(LookupError):
    """There is no CORNER of this number."""

    def __init__(self, corner):
        LookupError.__init__(self, f"there is no corner {corner}")
        self.corner = corner


class NoField(LookupError):
    """There is no FIELD of this number."""

    def __init__(self, field):
        LookupError.__init__(self, f"there is no field {field}")
        self.field = field


class NothingDone(LookupError):
    """There is no deed to take back or to do again."""


class BadLine(ValueError):
    """The line of this number is none that may stand there."""

    def __init__(self, number):
        ValueError.__init__(self, f"no such line may stand as line {number}")
        self.number = number


class Broken(ValueError):
    """What stands at this place of a PLAN is no QUARTER in its turn."""

    def __init__(self, place):
        ValueError.__init__(self, f"no quarter stands at place {place}")
        self.place = place


class CanNot(ValueError):
    """What is asked for is not to be had."""


class Pinched(ValueError):
    """The HEAP is pinched."""


class TooMany(ValueError):
    """There are more than are told."""


class Unfit(ValueError):
    """What was handed in is not what has to stand there."""
