"""Readings: histories with the fewest lifts that leave a section, and papers that show why fewer cannot. [10, 15]"""

from rockbeds.bounds import GROUND, event_row, ground_row, need_spanned, now_row, place_rows
from rockbeds.columns import is_level
from rockbeds.errors import NoColumn, Ringed, TooMany, WrongWidth
from rockbeds.events import Cut, Dike, History, Lay, Lift, span_of
from rockbeds.orders import earlier_items, items, name_ring, need_readable
from rockbeds.rings import at_one_level, is_ring, linked, no_links, now_of, rested, stillness
from rockbeds.sections import Section

MOST_ORDERED = 6


def longest_runs(rows):
    """The longest runs, from the ground to now, each a tuple (first, last, feet), and the rings that end them."""
    width = len(rows[0])
    runs = []
    rings = []
    first = GROUND
    links = no_links(width)
    feet = []
    for place in range(GROUND, now_of(rows) + 1):
        links = linked(links, at_one_level(rows, first, place))
        longer, ring = rested(links)
        if ring is not None:
            rings.append(ring)
            runs.append((first, place - 1, feet))
            first = place
            links = linked(no_links(width), at_one_level(rows, first, place))
            longer = rested(links)[0]
        feet = longer
    runs.append((first, now_of(rows), feet))
    return runs, rings


def event_at(section, item, level, spans):
    """The event at this level that left the item; the spans are a dict."""
    kind, name = item
    if kind == "lay":
        return Lay(name, level, span=spans.get(item))
    if kind == "cut":
        return Cut(name, level, span=spans.get(item))
    roots = [column.root for column in section.columns]
    return Dike(name, roots.index(name), level)


def played(section, order, spans, rows, runs):
    """The history in which each run stands still, and a Lift stands between two runs."""
    events = []
    before = None
    for first, last, kept in runs:
        feet, levels = stillness(rows, kept, first, last)
        if before is not None:
            events.append(Lift([foot - old for foot, old in zip(feet, before)]))
        before = feet
        for place, level in zip(range(first, last + 1), levels):
            if GROUND < place < now_of(rows):
                events.append(event_at(section, order[place], level, spans))
    return History(*events)


class Reading:
    """A history with the fewest lifts that makes a section out of the flat one. It never changes."""

    def __init__(self, section, order, *, spans=None):
        need_spanned(section, order, spans)
        rows = place_rows(section, order, spans)
        runs, rings = longest_runs(rows)
        self._history = played(section, order, {} if spans is None else spans, rows, runs)
        self._runs = tuple([(first, last) for first, last, _ in runs])
        self._rings = tuple([tuple(ring) for ring in rings])

    @property
    def history(self):
        return self._history

    @property
    def runs(self):
        return list(self._runs)

    @property
    def lifts(self):
        return len(self._rings)

    @property
    def paper(self):
        return [list(ring) for ring in self._rings]


def fewest_lifts(section, order, *, spans=None):
    """The number of the lifts of each reading that has as few as possible."""
    return Reading(section, order, spans=spans).lifts


def stretch_of(ring):
    """The least and the greatest place of a ring."""
    places = [step[0] for step in ring] + [step[2] for step in ring]
    return min(places), max(places)


def shows_fewest(section, order, lifts, paper, *, spans=None):
    """Whether any value is a paper that shows that at least so many lifts are needed."""
    need_spanned(section, order, spans)
    rows = place_rows(section, order, spans)
    if not isinstance(paper, (list, tuple)) or not is_level(lifts) or len(paper) != lifts:
        return False
    if not all([is_ring(rows, GROUND, now_of(rows), ring) for ring in paper]):
        return False
    stretches = [stretch_of(ring) for ring in paper]
    return all([one[1] <= other[0] for one, other in zip(stretches, stretches[1:])])


def leaves(history, section):
    """Whether the history makes the section out of the flat one."""
    try:
        return history(Section.flat(len(section))) == section
    except (NoColumn, WrongWidth):
        return False


def is_reading(section, order, history, *, spans=None):
    """Whether any value is a reading of the section in this order."""
    need_spanned(section, order, spans)
    if not isinstance(history, History) or history.order != tuple(order):
        return False
    wanted = {} if spans is None else spans
    if any([span_of(event) != wanted.get(event.item) for event in history.events]):
        return False
    return leaves(history, section)


def gone_on(links, used, most, places):
    """A tuple (links, used): after so many lifts, those of the run to which places at one level came, or of a new run.

    None if a new run were one lift too many.
    """
    longer = linked(links, places)
    if rested(longer)[1] is None:
        return longer, used
    return (linked(no_links(len(links)), places[:1]), used + 1) if used < most else None


def last_places(section, count, used):
    """Now, after so many events, and the ground if the first run has come so far."""
    now = [(count, now_row(section))]
    return now + [(GROUND, ground_row(section))] if used == 0 else now


def order_within(section, begun, links, used, most):
    """The first order found that begins so and needs at most so many lifts, None if there is none.

    The links are those of the run that has been reached, after so many used lifts.
    """
    before = earlier_items(section)
    if len(begun) == len(before):
        return begun if gone_on(links, used, most, last_places(section, len(begun), used)) is not None else None
    older = {item: True for item in begun}
    for item in before:
        if item in older or not all([earlier in older for earlier in before[item]]):
            continue
        run = gone_on(links, used, most, [(len(begun), event_row(section, item, older, None))])
        if run is not None:
            order = order_within(section, begun + (item,), run[0], run[1], most)
            if order is not None:
                return order
    return None


def best_order(section):
    """An order of the section's items that needs the fewest lifts of all that fit."""
    need_readable(section)
    if len(items(section)) > MOST_ORDERED:
        raise TooMany(MOST_ORDERED)
    ring = name_ring(section)
    if ring is not None:
        raise Ringed(ring)
    links = linked(no_links(len(section)), [(GROUND, ground_row(section))])
    most = 0
    order = order_within(section, (), links, 0, most)
    while order is None:
        most = most + 1
        order = order_within(section, (), links, 0, most)
    return order
