"""What keeps the places of a run from being at rest together: links between columns, and rings. [13, 14]

The rows are the bounds of all places in each column, from the ground to now. A place that is bounded from below in
one column and from above in another one links the feet of the two: the foot of the other column lies higher than that
of the one by the difference of these bounds, its gain, or more.
"""

from rockbeds.bounds import GROUND
from rockbeds.columns import is_index, is_level


def now_of(rows):
    """The place behind the last event."""
    return len(rows) - 2


def at_one_level(rows, first, place):
    """The places, with their rows, that are at the level of this one, up to it in a run that begins with the first."""
    known = [(place, rows[place + 1])]
    if first == GROUND and place == now_of(rows):
        known.append((GROUND, rows[0]))
    return known


def no_links(width):
    """For each column a list of its links to all columns; a link is a tuple (gain, goal, start), or None."""
    return [[None] * width for _ in range(width)]


def linked(links, places):
    """The links, and those through places at one level with their rows; of several from column to column the best."""
    more = [list(row) for row in links]
    for goal, least_row in places:
        for low, (least, _) in enumerate(least_row):
            if least is None:
                continue
            for start, greatest_row in places:
                for high, (_, greatest) in enumerate(greatest_row):
                    old = more[low][high]
                    if greatest is not None and (old is None or old[0] < least - greatest):
                        more[low][high] = (least - greatest, goal, start)
    return more


def columns_around(came_from, column):
    """The columns of a ring that leads to this one: from each rose the next one. None if there is no ring."""
    walked = [column]
    while came_from[walked[0]] is not None:
        if came_from[walked[0]] in walked:
            return walked[:walked.index(came_from[walked[0]]) + 1]
        walked.insert(0, came_from[walked[0]])
    return None


def steps_through(links, columns):
    """The ring of steps along the links of these columns."""
    steps = []
    for at, middle in enumerate(columns):
        start = links[columns[at - 1]][middle][2]
        goal = links[middle][columns[at + 1 - len(columns)]][1]
        steps.append((start, middle, goal))
    return steps


def rested(links):
    """A tuple (feet, ring): feet that keep all links, or a ring that shows that none do; the other one is None."""
    feet = [0 for _ in links]
    came_from = [None for _ in links]
    # A column that rises in round k came from one that rose in round k - 1 or k, so that a column that still rises
    # when there were as many rounds as columns has come along a ring.
    while True:
        risen = None
        for low, row in enumerate(links):
            for high, link in enumerate(row):
                if link is not None and feet[high] < feet[low] + link[0]:
                    feet[high] = feet[low] + link[0]
                    came_from[high] = low
                    risen = high
        if risen is None:
            return feet, None
        columns = columns_around(came_from, risen)
        if columns is not None:
            return None, steps_through(links, columns)


def level_over(rows, feet, places):
    """A level that suits these places, which are at one level, over feet that keep the links through them."""
    least = [foot + low for place in places for foot, (low, _) in zip(feet, rows[place + 1]) if low is not None]
    greatest = [foot + high for place in places for foot, (_, high) in zip(feet, rows[place + 1]) if high is not None]
    return max(least) if least else min(greatest, default=0)


def stillness(rows, feet, first, last):
    """A tuple (feet, levels) that shows that the run can stand still, from feet that keep its links."""
    known = [place for place in (GROUND, now_of(rows)) if first <= place <= last]
    zero = level_over(rows, feet, known)
    lowered = [foot - zero for foot in feet]
    levels = [0 if place in known else level_over(rows, lowered, [place]) for place in range(first, last + 1)]
    return lowered, levels


def is_within(number, bounds):
    least, greatest = bounds
    return (least is None or least <= number) and (greatest is None or number <= greatest)


def are_levels(value, count):
    """Whether any value is a list of so many integers."""
    return isinstance(value, (list, tuple)) and len(value) == count and all([is_level(part) for part in value])


def is_stillness(rows, first, last, feet, levels):
    """Whether any two values are feet and levels that show that the run can stand still."""
    if not are_levels(feet, len(rows[0])) or not are_levels(levels, last + 1 - first):
        return False
    for place, level in zip(range(first, last + 1), levels):
        if place in (GROUND, now_of(rows)) and level != 0:
            return False
        if not all([is_within(level - foot, bounds) for foot, bounds in zip(feet, rows[place + 1])]):
            return False
    return True


def is_step(rows, first, last, value):
    """Whether any value is a step in the run."""
    if not isinstance(value, tuple) or not are_levels(value, 3):
        return False
    start, column, goal = value
    if not first <= start <= last or not first <= goal <= last or not is_index(column, len(rows[0])):
        return False
    return rows[start + 1][column][1] is not None and rows[goal + 1][column][0] is not None


def gain_of(rows, step):
    start, column, goal = step
    return rows[goal + 1][column][0] - rows[start + 1][column][1]


def can_follow(rows, goal, start):
    """Whether a step can start at the one place after a step that ended at the other."""
    ends = (GROUND, now_of(rows))
    return goal == start or (goal in ends and start in ends)


def is_ring(rows, first, last, value):
    """Whether any value is a ring in the run."""
    if not isinstance(value, (list, tuple)) or not all([is_step(rows, first, last, step) for step in value]):
        return False
    if not all([can_follow(rows, value[at - 1][2], step[0]) for at, step in enumerate(value)]):
        return False
    return sum([gain_of(rows, step) for step in value]) > 0
