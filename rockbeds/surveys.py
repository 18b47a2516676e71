"""A survey: a section, the events that made it, and the steps that can be taken back and done again."""

from rockbeds.columns import is_index, is_level
from rockbeds.errors import (InvalidEvent, InvalidLimit, NoColumn, NoField, NoPlace, NothingToRedo, NothingToUndo,
                             Repeated, Stopped, TooMany, WrongWidth)
from rockbeds.events import Event, History
from rockbeds.readings import Reading
from rockbeds.sections import Section


def after_event(section, event, count, limit):
    """The section after the event, where so many events stand already."""
    if not isinstance(event, Event):
        raise InvalidEvent(event)
    if count >= limit:
        raise TooMany(limit)
    return event(section)


def after_events(section, events, count, limit):
    """The section after the events, where so many stand already; Stopped at the first one that is refused."""
    for index, event in enumerate(events):
        try:
            section = after_event(section, event, count + index, limit)
        except (InvalidEvent, TooMany, NoColumn, WrongWidth) as error:
            raise Stopped(index, error) from error
    return section


class Survey:
    """A section and its history, made step by step; a step is an event or a batch of events."""

    def __init__(self, width=1):
        # The section and the history after each step, those that were taken back too, the flat section first.
        self._states = [(Section.flat(width), History())]
        self._moment = 0
        self._limit = History.MOST_EVENTS

    @property
    def section(self):
        return self._states[self._moment][0]

    @property
    def history(self):
        return self._states[self._moment][1]

    @property
    def moment(self):
        return self._moment

    @property
    def limit(self):
        return self._limit

    @limit.setter
    def limit(self, value):
        if not is_level(value) or not len(self) <= value <= History.MOST_EVENTS:
            raise InvalidLimit(value)
        self._limit = value

    def __eq__(self, other):
        return isinstance(other, Survey) and self._states[self._moment] == other._states[other._moment]

    def __len__(self):
        return len(self._states[self._moment][1])

    def change(self, field, value):
        """Assign the field with this name."""
        if field != "limit":
            raise NoField(field)
        self.limit = value

    def do(self, event):
        """Do one event as a step."""
        section = after_event(self.section, event, len(self), self._limit)
        self._step(section, self.history + event)

    def batch(self, *events):
        """Do all events as one step."""
        section = after_events(self.section, events, len(self), self._limit)
        self._step(section, self.history + History(*events))

    def trial(self, *events):
        """The section after the events, which are not done."""
        return after_events(self.section, events, len(self), self._limit)

    def undo(self):
        """Take back the last step that stands."""
        if self._moment == 0:
            raise NothingToUndo()
        self._moment = self._moment - 1

    def redo(self):
        """Do the last step again that was taken back."""
        if self._moment + 1 == len(self._states):
            raise NothingToRedo()
        if len(self._states[self._moment + 1][1]) > self._limit:
            raise TooMany(self._limit)
        self._moment = self._moment + 1

    def section_at(self, moment):
        """The section after the first so many steps."""
        if not is_index(moment, self._moment + 1):
            raise NoPlace(moment)
        return self._states[moment][0]

    def reading(self):
        """The Reading of the section in the order of its history."""
        order = self.history.order
        for at, item in enumerate(order):
            if item in order[:at]:
                raise Repeated(item)
        return Reading(self.section, order, spans=self.history.spans)

    def _step(self, section, history):
        self._states = self._states[:self._moment + 1] + [(section, history)]
        self._moment = self._moment + 1
