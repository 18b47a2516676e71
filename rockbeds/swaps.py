"""Which events can change places, and histories that are made shorter without another effect."""

from rockbeds.columns import Column
from rockbeds.errors import NoColumn
from rockbeds.events import Cut, Dike, History, Lay, Lift, span_of
from rockbeds.sections import Section, need_width
from rockbeds.spans import whole_span


def columns_of(event, width):
    """The list of the columns on which the event acts; raises what the event does for a section of this width."""
    if isinstance(event, Lift):
        return [at for at, by in enumerate(event.on(width)) if by != 0]
    if isinstance(event, Dike):
        if event.at >= width:
            raise NoColumn(event.at)
        return [event.at]
    first, last = whole_span(event.span, width)
    return list(range(first, last + 1))


def kind_of(event):
    return "lift" if isinstance(event, Lift) else event.item[0]


def commute(one, other):
    """Whether the order of the two makes no difference in any column on which both act."""
    first, second = sorted([one, other], key=kind_of)
    kinds = (kind_of(first), kind_of(second))
    if kinds == ("cut", "cut"):
        return first.level != second.level or first.item == second.item
    if kinds in (("cut", "dike"), ("cut", "lay")):
        return first.level > second.level
    if kinds == ("dike", "dike"):
        return first == second
    if kinds == ("dike", "lay"):
        return first.level >= second.level
    if kinds == ("lay", "lay"):
        return first.item == second.item
    return kinds == ("lift", "lift")


def exchangeable(one, other, *, width):
    """Whether the two events have the same effect in either order on every section of this width."""
    need_width(width)
    columns = columns_of(one, width)
    others = columns_of(other, width)
    return not any([at in others for at in columns]) or commute(one, other)


def reach_of(event):
    """How far the level of the event is from 0; a Lift has none."""
    return 0 if isinstance(event, Lift) else abs(event.level)


def part_below(one, other, reach, width):
    """Whether two events that are not exchangeable differ on bedrock up to the level -reach, below their levels.

    A Cut does nothing there, unless a Lift brings the bedrock up to it; every other event does something.
    """
    first, second = sorted([one, other], key=kind_of)
    if not isinstance(first, Cut) or not isinstance(second, (Cut, Lift)):
        return True
    if isinstance(second, Cut):
        return False
    lifts = second.on(width)
    return any([lifts[at] - reach >= first.level for at in columns_of(first, width)])


def parting(one, other, *, width):
    """A section of this width on which the two orders of the events differ, None if there is none."""
    if exchangeable(one, other, width=width):
        return None
    # Bedrock below both levels shows what Lays do, bedrock above both levels what Cuts do.
    reach = max(reach_of(one), reach_of(other)) + 1
    column = Column(-reach if part_below(one, other, reach, width) else reach)
    return Section([column for _ in range(width)])


def summed_lift(one, other, width):
    """The Lift that lifts each column as the two together do."""
    return Lift([by + more for by, more in zip(one.on(width), other.on(width))])


def merged_lays(one, other):
    """What two Lays with one span become, None if they stay. [18] 3, 4"""
    if one.item == other.item:
        return [one if one.level > other.level else other]
    return [one] if other.level <= one.level else None


def merged(one, other, width):
    """The list of the events that two neighbouring events become, None if they stay. [18] 2 to 6"""
    if isinstance(one, Lift) and isinstance(other, Lift):
        return [summed_lift(one, other, width)]
    if span_of(one) != span_of(other):
        return None
    if isinstance(one, Lay) and isinstance(other, Lay):
        return merged_lays(one, other)
    if isinstance(one, Cut) and isinstance(other, Cut):
        return [one] if other.level > one.level else [other]
    if isinstance(one, Lay) and isinstance(other, Cut) and one.level > other.level:
        return [Lay(one.item[1], other.level, span=one.span), other]
    return None


def is_idle(event, width):
    """Whether this is a Lift that lifts no column. [18] 1"""
    return isinstance(event, Lift) and not any([by != 0 for by in event.on(width)])


def tidied_at(events, at, width):
    """The events after the first rule that applies at this index, None if none does."""
    if is_idle(events[at], width):
        return events[:at] + events[at + 1:]
    if at + 1 == len(events):
        return None
    pair = merged(events[at], events[at + 1], width)
    return None if pair is None else events[:at] + pair + events[at + 2:]


def tidied(history, *, width):
    """A history with the same effect on every section of this width, without what makes no difference."""
    need_width(width)
    events = list(history.events)
    for event in events:
        columns_of(event, width)
    at = 0
    while at < len(events):
        changed = tidied_at(events, at, width)
        if changed is None:
            at = at + 1
        else:
            events = changed
            at = 0
    return History(*events)
