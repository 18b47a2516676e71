"""Events, what each of them does to a section, and histories of them."""

from rockbeds.columns import is_index, need_level, need_name
from rockbeds.errors import InvalidEvent, InvalidLevel, NoColumn, NoPlace, ParseError, TooMany, WrongWidth
from rockbeds.event_words import line_of, read_event_words
from rockbeds.sections import Section, is_width, need_width
from rockbeds.spans import need_column, need_span_or_none, span_words, whole_span


def span_of(event):
    """The span of an event of any kind, None if it has none."""
    return event.span if isinstance(event, (Lay, Cut)) else None


def lifted(section, lifts):
    """The section after each of its columns rose by its own lift."""
    return Section([column.lifted(by) for column, by in zip(section.columns, lifts)])


def events_of(value):
    """The tuple of the events of an Event or a History."""
    return value.events if isinstance(value, History) else (value,)


def joined(one, other):
    """The History of two, each of them an Event or a History."""
    events = events_of(one) + events_of(other)
    return History(*events)


def changed_amounts(before, after):
    """What an event changes, for each rock, ascending: the amount afterwards minus the amount before."""
    old = before.amounts()
    new = after.amounts()
    changes = {rock: new.get(rock, 0) - old.get(rock, 0) for rock in sorted(set(before.rocks + after.rocks))}
    return {rock: changes[rock] for rock in changes if changes[rock] != 0}


def event_of_line(text, line):
    """The event of one line of a text; the index of the line is for the error."""
    kind, values = read_event_words(text, line)
    if kind in ("lay", "cut"):
        span = tuple(values[2:]) if len(values) > 2 else None
        return Lay(values[0], values[1], span=span) if kind == "lay" else Cut(values[0], values[1], span=span)
    if kind == "dike":
        return Dike(values[0], values[1], values[2])
    if kind == "fault":
        return Fault(values[0], values[1])
    return Tilt(values[0]) if kind == "tilt" else Lift(values)


class Event:
    """What changes a section. Only its subclasses are created; their objects never change."""

    def __call__(self, section):
        raise NotImplementedError("each kind of event changes a section in its own way")

    def __add__(self, other):
        if not isinstance(other, (Event, History)):
            return NotImplemented
        return joined(self, other)

    def text(self):
        raise NotImplementedError("each kind of event has its own words")


class Lay(Event):
    """Columns whose tops are below the level get a bed of this rock up to the level."""

    def __init__(self, rock, level, *, span=None):
        need_name(rock)
        need_level(level)
        need_span_or_none(span)
        self.item = ("lay", rock)
        self.level = level
        self.span = span

    def __call__(self, section):
        first, last = whole_span(self.span, len(section))
        return Section([column.laid(self.item[1], self.level) if first <= at <= last else column
                        for at, column in enumerate(section.columns)])

    def __eq__(self, other):
        return (isinstance(other, Lay) and self.item == other.item and self.level == other.level
                and self.span == other.span)

    def __add__(self, other):
        if not isinstance(other, (Event, History)):
            return NotImplemented
        return joined(self, other)

    def text(self):
        return line_of(["lay", self.item[1], self.level] + span_words(self.span))


class Cut(Event):
    """Columns that reach the level are cut down to it, and the contact there gets this name as its mark."""

    def __init__(self, name, level, *, span=None):
        need_name(name)
        need_level(level)
        need_span_or_none(span)
        self.item = ("cut", name)
        self.level = level
        self.span = span

    def __call__(self, section):
        first, last = whole_span(self.span, len(section))
        return Section([column.cut_to(self.item[1], self.level) if first <= at <= last else column
                        for at, column in enumerate(section.columns)])

    def __eq__(self, other):
        return (isinstance(other, Cut) and self.item == other.item and self.level == other.level
                and self.span == other.span)

    def __add__(self, other):
        if not isinstance(other, (Event, History)):
            return NotImplemented
        return joined(self, other)

    def text(self):
        return line_of(["cut", self.item[1], self.level] + span_words(self.span))


class Dike(Event):
    """One column becomes all root of this rock, up to the level."""

    def __init__(self, rock, at, level):
        need_name(rock)
        need_column(at)
        need_level(level)
        self.item = ("dike", rock)
        self.at = at
        self.level = level

    def __call__(self, section):
        if self.at >= len(section):
            raise NoColumn(self.at)
        return Section([column.turned(self.item[1], self.level) if at == self.at else column
                        for at, column in enumerate(section.columns)])

    def __eq__(self, other):
        return (isinstance(other, Dike) and self.item == other.item and self.at == other.at
                and self.level == other.level)

    def __add__(self, other):
        if not isinstance(other, (Event, History)):
            return NotImplemented
        return joined(self, other)

    def text(self):
        return line_of(["dike", self.item[1], self.at, self.level])


class Lift(Event):
    """Each column rises by its own integer."""

    def __init__(self, lifts):
        if not isinstance(lifts, (list, tuple)):
            raise InvalidLevel(lifts)
        if not is_width(len(lifts)):
            raise WrongWidth(len(lifts))
        for by in lifts:
            need_level(by)
        self.item = None
        self._lifts = tuple(lifts)

    @property
    def lifts(self):
        return self._lifts

    def __call__(self, section):
        return lifted(section, self.on(len(section)))

    def __eq__(self, other):
        # A Fault and a Tilt are Lifts, too, but have no list of lifts.
        return isinstance(other, Lift) and not isinstance(other, (Fault, Tilt)) and self._lifts == other._lifts

    def __neg__(self):
        return Lift([-by for by in self._lifts])

    def __add__(self, other):
        if not isinstance(other, (Event, History)):
            return NotImplemented
        return joined(self, other)

    def on(self, width):
        """The lifts of all columns of a section of this width."""
        need_width(width)
        if len(self._lifts) != width:
            raise WrongWidth(width)
        return self._lifts

    def text(self):
        return line_of(["lift"] + list(self._lifts))


class Fault(Lift):
    """The columns from one on rise by the throw."""

    def __init__(self, at, throw):
        need_column(at)
        need_level(throw)
        self.item = None
        self.at = at
        self.throw = throw

    def __call__(self, section):
        return lifted(section, self.on(len(section)))

    def __eq__(self, other):
        return isinstance(other, Fault) and self.at == other.at and self.throw == other.throw

    def __neg__(self):
        return Fault(self.at, -self.throw)

    def __add__(self, other):
        if not isinstance(other, (Event, History)):
            return NotImplemented
        return joined(self, other)

    def on(self, width):
        """The lifts of all columns of a section of this width."""
        need_width(width)
        if self.at >= width:
            raise NoColumn(self.at)
        return tuple([self.throw if column >= self.at else 0 for column in range(width)])

    def text(self):
        return line_of(["fault", self.at, self.throw])


class Tilt(Lift):
    """Each column rises by the slope times its index."""

    def __init__(self, slope):
        need_level(slope)
        self.item = None
        self.slope = slope

    def __call__(self, section):
        return lifted(section, self.on(len(section)))

    def __eq__(self, other):
        return isinstance(other, Tilt) and self.slope == other.slope

    def __neg__(self):
        return Tilt(-self.slope)

    def __add__(self, other):
        if not isinstance(other, (Event, History)):
            return NotImplemented
        return joined(self, other)

    def on(self, width):
        """The lifts of all columns of a section of this width."""
        need_width(width)
        return tuple([self.slope * column for column in range(width)])

    def text(self):
        return line_of(["tilt", self.slope])


class History:
    """A sequence of at most 60 events, oldest first. It never changes."""

    MOST_EVENTS = 60

    def __init__(self, *events):
        for event in events:
            if not isinstance(event, Event):
                raise InvalidEvent(event)
        if len(events) > History.MOST_EVENTS:
            raise TooMany(History.MOST_EVENTS)
        self._events = events

    @classmethod
    def read(cls, text):
        """The history with this text."""
        if not isinstance(text, str):
            raise ParseError(0, 0)
        rows = text.split("\n") if text != "" else []
        events = [event_of_line(row, line) for line, row in enumerate(rows)]
        if len(events) > cls.MOST_EVENTS:
            raise ParseError(cls.MOST_EVENTS, 0)
        return History(*events)

    @property
    def events(self):
        return self._events

    @property
    def order(self):
        return tuple([event.item for event in self._events if event.item is not None])

    @property
    def lifts(self):
        return len([event for event in self._events if isinstance(event, Lift)])

    @property
    def spans(self):
        return {event.item: event.span for event in self._events if span_of(event) is not None}

    def __call__(self, section):
        for event in self._events:
            section = event(section)
        return section

    def __eq__(self, other):
        return isinstance(other, History) and self._events == other._events

    def __len__(self):
        return len(self._events)

    def __bool__(self):
        return bool(self._events)

    def __contains__(self, event):
        return event in self._events

    def __getitem__(self, at):
        if not is_index(at, len(self._events)):
            raise NoPlace(at)
        return self._events[at]

    def __iter__(self):
        raise TypeError("a history is not iterated over, its events are")

    def __add__(self, other):
        if not isinstance(other, (Event, History)):
            return NotImplemented
        return joined(self, other)

    def walk(self, section):
        """The section, then the section after each event."""
        yield section
        for event in self._events:
            section = event(section)
            yield section

    def ledger(self, section):
        """The list of what each event changes of the amounts of rocks."""
        changes = []
        for event in self._events:
            after = event(section)
            changes.append(changed_amounts(section, after))
            section = after
        return changes

    def text(self):
        """A line for each event."""
        return "\n".join([event.text() for event in self._events])
