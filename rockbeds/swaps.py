"""Which events can change places, and histories that are made shorter without another effect."""

from rockbeds.columns import Column
from rockbeds.events import Cut, Dike, History, Lay, Lift, span_of
from rockbeds.sections import Section
from rockbeds.spans import whole_span


def need_applicable(events, width):
    """Raise what the events raise for sections of this width."""
    section = Section.flat(width)
    for event in events:
        event(section)


def kind_of(event):
    return "lift" if isinstance(event, Lift) else event.item[0]


def acts_at(event, at, width):
    """Whether the event acts on the column with this index."""
    if isinstance(event, Lift):
        return event.on(width)[at] != 0
    if isinstance(event, Dike):
        return event.at == at
    first, last = whole_span(event.span, width)
    return first <= at <= last


def act_apart(one, other, width):
    """Whether no column is acted on by both."""
    return not any([acts_at(one, at, width) and acts_at(other, at, width) for at in range(width)])


def commute(one, other):
    """Whether the order of the two makes no difference in any column on which both act."""
    first, second = sorted([one, other], key=kind_of)
    kinds = (kind_of(first), kind_of(second))
    if kinds == ("cut", "cut"):
        return first.level != second.level or first.item == second.item
    if kinds in (("cut", "dike"), ("cut", "lay")):
        return first.level > second.level
    if kinds == ("dike", "dike"):
        return first == second
    if kinds == ("dike", "lay"):
        return first.level >= second.level
    if kinds == ("lay", "lay"):
        return first.item == second.item
    return kinds == ("lift", "lift")


def exchangeable(one, other, *, width):
    """Whether the two events have the same effect in either order on every section of this width."""
    need_applicable([one, other], width)
    return act_apart(one, other, width) or commute(one, other)


def reach_of(event):
    """How far the level of the event is from 0; a Lift has none."""
    return 0 if isinstance(event, Lift) else abs(event.level)


def are_parted(one, other, section):
    """Whether the two orders of the events differ on this section."""
    return other(one(section)) != one(other(section))


def parting(one, other, *, width):
    """A section of this width on which the two orders of the events differ, None if there is none."""
    if exchangeable(one, other, width=width):
        return None
    # Bedrock below both levels shows what Lays do, bedrock above both levels what Cuts do.
    reach = max(reach_of(one), reach_of(other)) + 1
    low = Section([Column(-reach) for _ in range(width)])
    high = Section([Column(reach) for _ in range(width)])
    return low if are_parted(one, other, low) else high


def summed_lift(one, other, width):
    """The Lift that lifts each column as the two together do."""
    return Lift([by + more for by, more in zip(one.on(width), other.on(width))])


def merged_lays(one, other):
    """What two Lays with one span become, None if they stay. [18] 3, 4"""
    if one.item == other.item:
        return [one if one.level > other.level else other]
    return [one] if other.level <= one.level else None


def merged(one, other, width):
    """The list of the events that two neighbouring events become, None if they stay. [18] 2 to 6"""
    if isinstance(one, Lift) and isinstance(other, Lift):
        return [summed_lift(one, other, width)]
    if span_of(one) != span_of(other):
        return None
    if isinstance(one, Lay) and isinstance(other, Lay):
        return merged_lays(one, other)
    if isinstance(one, Cut) and isinstance(other, Cut):
        return [one] if other.level > one.level else [other]
    if isinstance(one, Lay) and isinstance(other, Cut) and one.level > other.level:
        return [Lay(one.item[1], other.level, span=one.span), other]
    return None


def is_idle(event, width):
    """Whether this is a Lift that lifts no column. [18] 1"""
    return isinstance(event, Lift) and not any([by != 0 for by in event.on(width)])


def tidied_at(events, at, width):
    """The events after the first rule that applies at this index, None if none does."""
    if is_idle(events[at], width):
        return events[:at] + events[at + 1:]
    if at + 1 == len(events):
        return None
    pair = merged(events[at], events[at + 1], width)
    return None if pair is None else events[:at] + pair + events[at + 2:]


def tidied(history, *, width):
    """A history with the same effect on every section of this width, without what makes no difference."""
    events = list(history.events)
    need_applicable(events, width)
    at = 0
    while at < len(events):
        changed = tidied_at(events, at, width)
        if changed is None:
            at = at + 1
        else:
            events = changed
            at = 0
    return History(*events)
