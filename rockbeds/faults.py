"""Lifts as a Lift of all columns by one number together with Faults, and sums of Lifts. [19]"""

from rockbeds.errors import InvalidEvent
from rockbeds.events import Fault, Lift
from rockbeds.sections import need_width


def as_faults(lift, *, width):
    """The lift of column 0, and the Faults by which each column rises with it as the Lift says."""
    lifts = lift.on(width)
    faults = [Fault(at, lifts[at] - lifts[at - 1]) for at in range(1, width) if lifts[at] != lifts[at - 1]]
    return lifts[0], faults


def summed(*lifts, width):
    """The Lift that lifts each column as all these Lifts together do."""
    need_width(width)
    for lift in lifts:
        if not isinstance(lift, Lift):
            raise InvalidEvent(lift)
    rows = [lift.on(width) for lift in lifts]
    return Lift([sum([row[at] for row in rows]) for at in range(width)])
