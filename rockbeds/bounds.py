"""Surfaces: the heights of places in each column, as far as the section bounds them. [11, 12]"""

from rockbeds.columns import column_items, is_index, is_level
from rockbeds.errors import InvalidSpans, NoColumn, NoPlace
from rockbeds.orders import need_fitting
from rockbeds.spans import is_span

GROUND = -1
FREE = (None, None)


def can_have_span(section, order, item, span):
    """Whether any key of a dict of spans is an event of the order that can have this value as its span."""
    if item not in list(order) or item[0] == "dike":
        return False
    if not is_span(span) or span[1] >= len(section):
        return False
    first, last = span
    return not any([item in column_items(column) for at, column in enumerate(section.columns)
                    if not first <= at <= last])


def are_spans(section, order, value):
    """Whether any value gives spans to events of the order."""
    if value is None:
        return True
    if not isinstance(value, dict):
        return False
    return all([can_have_span(section, order, item, value[item]) for item in value])


def need_spanned(section, order, spans):
    """Raise what all functions raise that read a section in an order with spans."""
    need_fitting(section, order)
    if not are_spans(section, order, spans):
        raise InvalidSpans(spans)


def need_place(order, value):
    if not is_level(value) or not GROUND <= value <= len(order):
        raise NoPlace(value)


def older_part(column, older):
    """The height of the top of the root and the older beds, and the mark of the contact there."""
    height = 0
    mark = column.mark
    for rock, thickness, above in column.beds:
        if ("lay", rock) not in older:
            break
        height = height + thickness
        mark = above
    return height, mark


def dike_surface(column, item):
    if column.root != item[1]:
        return FREE
    return (0, 0) if column.mark is None else (0, None)


def lay_surface(column, item, older):
    height, mark = older_part(column, older)
    for rock, thickness, above in column.beds:
        if rock == item[1]:
            top = height + thickness
            return (top, top) if above is None else (top, None)
    if mark is None or ("cut", mark) in older:
        return None, height
    return FREE


def cut_surface(column, item, older):
    height, mark = older_part(column, older)
    if mark == item[1]:
        return height, height
    if mark is None or ("cut", mark) in older:
        return height + 1, None
    return height, None


def event_surface(column, item, older):
    """The bounds of an event that acts on the column, where the items in the dict are older."""
    if item[0] == "dike":
        return dike_surface(column, item)
    if column.root is not None and ("dike", column.root) not in older:
        return FREE
    return lay_surface(column, item, older) if item[0] == "lay" else cut_surface(column, item, older)


def event_row(section, item, older, span):
    """The bounds of an event in each column."""
    first, last = (0, len(section) - 1) if span is None else span
    return [event_surface(column, item, older) if first <= at <= last else FREE
            for at, column in enumerate(section.columns)]


def ground_surface(column):
    if column.root is not None:
        return FREE
    return (0, 0) if column.mark is None else (0, None)


def ground_row(section):
    return [ground_surface(column) for column in section.columns]


def now_row(section):
    return [(-column.foot, -column.foot) for column in section.columns]


def place_row(section, order, at, spans):
    """The bounds of the place in each column; the spans are a dict."""
    if at == GROUND:
        return ground_row(section)
    if at == len(order):
        return now_row(section)
    older = {item: True for item in order[:at]}
    return event_row(section, order[at], older, spans.get(order[at]))


def place_rows(section, order, spans):
    """The bounds of each place in each column, from the ground to now; the spans may be None."""
    known = {} if spans is None else spans
    rows = [ground_row(section)]
    older = {}
    for item in order:
        rows.append(event_row(section, item, older, known.get(item)))
        older[item] = True
    rows.append(now_row(section))
    return rows


def surface(section, order, at, column, *, spans=None):
    """The bounds (least, greatest) of the surface of the place in the column, each of them None if there is none."""
    need_spanned(section, order, spans)
    need_place(order, at)
    if not is_index(column, len(section)):
        raise NoColumn(column)
    known = {} if spans is None else spans
    return place_row(section, order, at, known)[column]
