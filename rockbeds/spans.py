"""Spans: the columns, from first to last, on which a Lay or a Cut acts."""

from rockbeds.columns import is_index
from rockbeds.errors import InvalidSpan, NoColumn
from rockbeds.sections import Section


def need_column(value):
    """Raise NoColumn for any value that is no index of a column in any section."""
    if not is_index(value, Section.MOST_COLUMNS):
        raise NoColumn(value)


def is_span(value):
    """Whether any value is a tuple (first, last) of indexes of columns."""
    if not isinstance(value, tuple) or len(value) != 2:
        return False
    return all([is_index(at, Section.MOST_COLUMNS) for at in value]) and value[0] <= value[1]


def need_span_or_none(value):
    if value is not None and not is_span(value):
        raise InvalidSpan(value)


def whole_span(span, width):
    """The span itself, or for None that of all columns, in a section of this width."""
    if span is None:
        return 0, width - 1
    if span[1] >= width:
        raise NoColumn(span[1])
    return span


def span_words(span):
    """The two numbers of a span in the text of an event, none without a span."""
    return [] if span is None else [span[0], span[1]]
