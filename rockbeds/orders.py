"""The items of a section, and the orders in which they can have come about."""

from rockbeds.columns import column_items, is_index, is_name
from rockbeds.counting import OrderCounts
from rockbeds.errors import InvalidOrder, NoPlace, Repeated, TooMany
from rockbeds.sections import section_items

KINDS = ("lay", "cut", "dike")
MOST_COUNTED = 12


def items(section):
    """The items of the section, ascending, each once."""
    return section_items(section.columns)


def is_repeated(rows, item):
    """Whether the item occurs more often than in a readable section with these rows of items."""
    counts = [row.count(item) for row in rows]
    return max(counts) > 1 or (item[0] == "dike" and sum(counts) > 1)


def need_readable(section):
    rows = [column_items(column) for column in section.columns]
    for item in items(section):
        if is_repeated(rows, item):
            raise Repeated(item)


def is_item(value):
    """Whether any value is a tuple that can be an item."""
    return isinstance(value, tuple) and len(value) == 2 and value[0] in KINDS and is_name(value[1])


def is_order(value):
    """Whether any value is a row of different items."""
    if not isinstance(value, (list, tuple)) or not all([is_item(item) for item in value]):
        return False
    return len(set(value)) == len(value)


def ascends(numbers):
    return all([number < follower for number, follower in zip(numbers, numbers[1:])])


def fits(section, order):
    """Whether any value is an order that fits the section."""
    need_readable(section)
    if not is_order(order):
        return False
    places = {item: place for place, item in enumerate(order)}
    present = items(section)
    if any([item not in places for item in present]):
        return False
    if any([item[0] == "dike" and item not in present for item in order]):
        return False
    return all([ascends([places[item] for item in column_items(column)]) for column in section.columns])


def need_fitting(section, order):
    if not fits(section, order):
        raise InvalidOrder(order)


def earlier_items(section):
    """For each item, ascending, the list of the items right before it in some column."""
    before = {item: [] for item in items(section)}
    for column in section.columns:
        row = column_items(column)
        for earlier, item in zip(row, row[1:]):
            if earlier not in before[item]:
                before[item].append(earlier)
    return before


def must_be_earlier(section, one, other):
    """Whether a chain of items leads from the one to the other, each of which stands before the next."""
    need_readable(section)
    before = earlier_items(section)
    for item in (one, other):
        if item not in list(before):
            raise InvalidOrder(item)
    return one in chained_before(before, other)


def chained_before(before, item):
    """A dict with a key for each item from which a chain leads to this one."""
    found = {}
    waiting = [item]
    while waiting:
        last = waiting.pop()
        for earlier in before[last]:
            if earlier not in found:
                found[earlier] = True
                waiting.append(earlier)
    return found


def completed(begun, before):
    """The least order that begins so, of the items that are not kept back by a name ring."""
    order = list(begun)
    left = [item for item in before if item not in order]
    placed = {item: True for item in order}
    at = 0
    while at < len(left):
        item = left[at]
        if all([earlier in placed for earlier in before[item]]):
            placed[item] = True
            order.append(item)
            del left[at]
            at = 0
        else:
            at = at + 1
    return order


def name_ring(section):
    """A tuple of items of which each stands before the next, and the last before the first, None if there is none."""
    need_readable(section)
    before = earlier_items(section)
    free = completed([], before)
    kept_back = [item for item in before if item not in free]
    if not kept_back:
        return None
    walked = []
    item = kept_back[0]
    # Each item that is kept back has one before it that is, too, so that the walk back comes to an item again.
    while item not in walked:
        walked.append(item)
        item = [earlier for earlier in before[item] if earlier in kept_back][0]
    ring = walked[walked.index(item):]
    return tuple(ring[::-1])


def next_order(order, before):
    """The least of the orders that are greater than this one, None if there is none."""
    places = {item: place for place, item in enumerate(order)}
    for at in reversed(range(len(order))):
        greater = [item for item in order[at + 1:] if item > order[at]
                   and all([places[earlier] < at for earlier in before[item]])]
        if greater:
            return completed(order[:at] + [min(greater)], before)
    return None


def orders(section):
    """The orders of exactly the section's items that fit, ascending."""
    if name_ring(section) is not None:
        return
    before = earlier_items(section)
    order = completed([], before)
    while order is not None:
        yield tuple(order)
        order = next_order(order, before)


def needs_of(before):
    """For each item the set of the items right before it: an integer, with the bit 1 << k for the item with index k."""
    names = list(before)
    return [sum([1 << names.index(earlier) for earlier in before[item]]) for item in names]


def counted(section):
    """The OrderCounts of a section that has few enough items to count its orders."""
    need_readable(section)
    before = earlier_items(section)
    if len(before) > MOST_COUNTED:
        raise TooMany(MOST_COUNTED)
    return OrderCounts(needs_of(before))


def order_count(section):
    """How many orders of exactly the section's items fit."""
    return counted(section).many


def order_at(section, number):
    """The order with this number, from 0, of those that orders yields."""
    counts = counted(section)
    if not is_index(number, counts.many):
        raise NoPlace(number)
    names = items(section)
    order = []
    left = (1 << len(names)) - 1
    many = counts.many
    while left:
        for at, following in counts.beginnings(left, many):
            if number < following:
                order.append(names[at])
                left = left ^ (1 << at)
                many = following
                break
            number = number - following
    return tuple(order)


def order_number(section, order):
    """The number of this order, from 0, among those that orders yields."""
    counts = counted(section)
    names = items(section)
    if not fits(section, order) or len(order) != len(names):
        raise InvalidOrder(order)
    number = 0
    left = (1 << len(names)) - 1
    many = counts.many
    for item in order:
        place = names.index(item)
        beginnings = counts.beginnings(left, many)
        number = number + sum([following for at, following in beginnings if at < place])
        many = [following for at, following in beginnings if at == place][0]
        left = left ^ (1 << place)
    return number
