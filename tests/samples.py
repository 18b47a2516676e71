"""Sections with a known history, and other ways to check what readings say of them."""

from rockbeds.bounds import surface
from rockbeds.columns import Column
from rockbeds.events import Cut, Dike, Fault, History, Lay, Lift, Tilt
from rockbeds.sections import Section
from tests.cells import some_event

A, B, C, D = ("lay", "a"), ("lay", "b"), ("lay", "c"), ("lay", "d")
X, Y, Z = ("cut", "x"), ("cut", "y"), ("cut", "z")
R, S = ("dike", "r"), ("dike", "s")


class Sample:
    """A section with the order and the spans of a history that made it."""

    def __init__(self, history, width):
        self.known = history
        self.section = history(Section.flat(width))
        self.order = list(history.order)
        self.spans = history.spans
        self.width = width
        self.now = len(self.order)


def some_sample(numbers, width, most):
    """Any section whose history has different items and at most one dike in each column."""
    events, diked = [], []
    for number in range(numbers.below(most + 1)):
        event, name = some_event(numbers, width), "abcdefghijklmnopqrstuvwxyz"[number]
        if isinstance(event, Dike):
            if event.at in diked:
                continue
            diked.append(event.at)
            event = Dike(name, event.at, event.level)
        elif isinstance(event, (Lay, Cut)):
            event = type(event)(name, event.level, span=event.span)
        events.append(event)
    return Sample(History(*events), width)


def nudged(numbers, history, width):
    """The same history with some levels and lifts that are others."""
    events = []
    for event in history.events:
        by = numbers.one_of([0, 0, 0, 1, -1, 2, -3])
        if isinstance(event, (Lay, Cut)):
            event = type(event)(event.item[1], event.level + by, span=event.span)
        elif isinstance(event, Dike):
            event = Dike(event.item[1], event.at, event.level + by)
        else:
            event = Lift([lift + numbers.one_of([0, 0, by]) for lift in event.on(width)])
        events.append(event)
    return History(*events)


def bounds_of(section, order, spans):
    """For each place from the ground to now the list of its surfaces."""
    return {at: [surface(section, order, at, column, spans=spans) for column in range(len(section))]
            for at in range(-1, len(order) + 1)}


def is_inside(height, bounds):
    least, greatest = bounds
    return (least is None or least <= height) and (greatest is None or height <= greatest)


def keeps_surfaces(section, history):
    """Whether each place of the history is inside of its surfaces, over the levels of the feet at that time. [12]"""
    width = len(section)
    rows = bounds_of(section, list(history.order), history.spans)
    feet = [column.foot for column in section.columns]
    for event in history.events:
        if isinstance(event, Lift):
            feet = [foot - by for foot, by in zip(feet, event.on(width))]
    place, kept = -1, [is_inside(-foot, bounds) for foot, bounds in zip(feet, rows[-1])]
    for event in history.events:
        if isinstance(event, Lift):
            feet = [foot + by for foot, by in zip(feet, event.on(width))]
        else:
            place += 1
            kept += [is_inside(event.level - foot, bounds) for foot, bounds in zip(feet, rows[place])]
    return all(kept + [is_inside(-foot, bounds) for foot, bounds in zip(feet, rows[place + 1])])


def stands(rows, first, last, feet, levels):
    """Whether these feet and levels show that the run can stand still. [13]"""
    now = len(rows) - 2
    if len(feet) != len(rows[-1]) or len(levels) != last + 1 - first:
        return False
    for place, level in zip(range(first, last + 1), levels):
        if place in (-1, now) and level != 0:
            return False
        if not all([is_inside(level - foot, bounds) for foot, bounds in zip(feet, rows[place])]):
            return False
    return True


def comes_round(rows, first, last, ring):
    """Whether these steps are a ring in the run. [14]"""
    now, gains = len(rows) - 2, 0
    for before, (start, column, goal) in zip(ring[-1:] + ring[:-1], ring):
        if not (first <= start <= last and first <= goal <= last):
            return False
        if before[2] != start and sorted([before[2], start]) != [-1, now]:
            return False
        gains += rows[goal][column][0] - rows[start][column][1]
    return gains > 0


def chain(faults):
    """A section of twelve columns, an order and spans: beds over two columns each, dikes in all but the outer columns.

    The foot of each column lies higher by its fault than that of the one before; a run without now binds the feet of
    the outer columns to the ground, and only a ring through all columns shows that the sum of the faults is not 0.
    """
    names, thick = "abcdefghijk", 10 ** 30
    columns = [Column(0, [("a", thick + faults[0], None)])]
    for at in range(1, 11):
        beds = [(names[at - 1], at * thick, None), (names[at], thick + faults[at], None)]
        columns.append(Column(0, beds, root="root" + names[at]))
    columns.append(Column(0, [("k", 11 * thick, None)]))
    order = [("dike", column.root) for column in columns[1:11]] + [("lay", name) for name in names]
    return Section(columns), order, {("lay", name): (at, at + 1) for at, name in enumerate(names)}


def wrong_spans(section, order):
    """Values that are no spans for an order with the lay a, the cut x and the dike r in a section of three columns.

    The lay a stands in column 1 alone, the cut x left nothing.
    """
    return [
        {B: (0, 1)}, {("lay", "x"): (0, 1)}, {("cut", "a"): (1, 1)}, {("dike", "a"): (1, 1)}, {R: (0, 2)}, {R: None},
        {A: None}, {A: [0, 2]}, {A: [1, 1]}, {A: (2, 1)}, {X: (1, 0)}, {A: (0, 3)}, {X: (3, 3)}, {A: (1, 12)},
        {A: (-1, 1)}, {A: (0, 0)}, {A: (2, 2)}, {A: (True, True)}, {X: (0, True)}, {X: (0, 1, 2)}, {X: (1,)}, {X: ()},
        {X: 1}, {X: "01"}, {X: {}}, {X: ((0, 1),)}, {X: (0, None)}, {X: (None, None)}, {X: ("0", "1")}, {X: [0, 1]},
        {X: (0, 2), A: (2, 2)}, {A: (0, 2), "x": (0, 1)}, {None: (0, 1)}, {0: (0, 1)}, {"lay a": (0, 2)}, {"a": (1, 1)},
        {("lay",): (1, 1)}, {(): (1, 1)}, {("lay", "a", 1): (1, 1)}, {True: (1, 1)}, {X: Fault(1, 1)}, {X: Tilt(1)},
        [(A, (0, 2))], (A, (0, 2)), ((A, (0, 2)),), [A], (), [], "", 0, False, True, 1, "a", (0, 1), [None],
    ]
