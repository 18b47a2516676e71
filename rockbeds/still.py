"""Which runs of places can stand still, and what shows it. [13, 14]"""

from rockbeds.bounds import need_place, need_spanned, place_rows
from rockbeds.errors import NoPlace
from rockbeds.rings import at_one_level, is_ring, is_stillness, linked, no_links, rested, stillness


def need_run(order, first, last):
    need_place(order, first)
    need_place(order, last)
    if last < first:
        raise NoPlace(last)


def still(section, order, first, last, *, spans=None):
    """("still", feet, levels) if the places from first to last can stand still, otherwise ("moved", ring)."""
    need_spanned(section, order, spans)
    need_run(order, first, last)
    rows = place_rows(section, order, spans)
    links = no_links(len(section))
    for place in range(first, last + 1):
        links = linked(links, at_one_level(rows, first, place))
    feet, ring = rested(links)
    if ring is not None:
        return "moved", ring
    feet, levels = stillness(rows, feet, first, last)
    return "still", feet, levels


def shows_still(section, order, first, last, value, *, spans=None):
    """Whether any value is what still could answer for this run."""
    need_spanned(section, order, spans)
    need_run(order, first, last)
    rows = place_rows(section, order, spans)
    if not isinstance(value, tuple) or len(value) not in (2, 3):
        return False
    if len(value) == 3:
        return value[0] == "still" and is_stillness(rows, first, last, value[1], value[2])
    return value[0] == "moved" and is_ring(rows, first, last, value[1])
