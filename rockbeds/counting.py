"""How many orders there are of items some of which must stand before others, without listing them.

An item is its index; a set of items is an integer with the bit 1 << at for the item with the index at. The needs give
for each item the set of the items right before it.
"""

from math import factorial


def ready_at(needs, left):
    """The items of a set, ascending, that can be the first one of it."""
    return [at for at, need in enumerate(needs) if left & (1 << at) and not left & need]


def parts_of(needs):
    """The sets of items that hang together by needs; items of two parts can stand in either order."""
    parts = []
    for at, need in enumerate(needs):
        bound = need | (1 << at)
        touched = [part for part in parts if part & bound]
        parts = [part for part in parts if not part & bound]
        for part in touched:
            bound = bound | part
        parts.append(bound)
    return parts


def ways_of(needs, part):
    """A dict from each set of items with which orders of the part can end to a tuple (size, number of orders)."""
    after = {}
    layers = []
    layer = [part]
    while layer:
        layers.append(layer)
        for left in layer:
            after[left] = [left ^ (1 << at) for at in ready_at(needs, left)]
        layer = list({smaller: True for left in layer for smaller in after[left]})
    size = len([at for at in range(len(needs)) if part & (1 << at)])
    ways = {}
    for fewer in reversed(range(len(layers))):
        for left in layers[fewer]:
            # In a part with a name ring the layers end with sets that no item can begin.
            many = sum([ways[smaller][1] for smaller in after[left]]) if left else 1
            ways[left] = (size - fewer, many)
    return ways


class OrderCounts:
    """The number of the orders of all items, and how many of them begin with each item. It never changes."""

    def __init__(self, needs):
        self.needs = list(needs)
        self.parts = [0 for _ in needs]
        self.ways = {}
        self.many = factorial(len(needs))
        for part in parts_of(needs):
            self.ways.update(ways_of(needs, part))
            size, many = self.ways[part]
            # Orders of the parts can be mixed in any way, so that each order of this one has its equal share.
            self.many = self.many // factorial(size) * many
            self.parts = [part if part & (1 << at) else old for at, old in enumerate(self.parts)]

    def beginnings(self, left, many):
        """For each item that can be the first one of those left, ascending, a tuple (item, number of orders).

        The items that are left have so many orders in all.
        """
        every = len([at for at in range(len(self.needs)) if left & (1 << at)])
        found = []
        for at in ready_at(self.needs, left):
            size, whole = self.ways[left & self.parts[at]]
            share = self.ways[left & self.parts[at] ^ (1 << at)][1]
            found.append((at, many * size * share // (every * whole)))
        return found
