"""Another way to the same results: the ground as the document tells it, level by level."""

from rockbeds.columns import Column
from rockbeds.events import Cut, Dike, Fault, Lay, Lift, Tilt
from rockbeds.sections import Section


class Numbers:
    """Numbers that look as if by chance, the same ones each time."""

    def __init__(self, start=1):
        self.last = start

    def below(self, count):
        self.last = (self.last * 6364136223846793005 + 1442695040888963407) % 2 ** 64
        return self.last // 2 ** 24 % count

    def between(self, low, high):
        return low + self.below(high - low + 1)

    def one_of(self, values):
        return values[self.below(len(values))]


class Cells:
    """A column as the document tells it, level by level: another way to the same results."""

    def __init__(self):
        self.foot, self.root, self.cells, self.marks = 0, None, [], {}

    def lay(self, rock, level):
        while self.foot + len(self.cells) < level:
            self.cells.append(rock)

    def cut(self, name, level):
        if self.foot + len(self.cells) < level:
            return
        self.foot = min(self.foot, level)
        del self.cells[level - self.foot:]
        self.marks = {height: mark for height, mark in self.marks.items() if height < level}
        self.marks[level] = name

    def dike(self, rock, level):
        self.foot, self.root, self.cells, self.marks = level, rock, [], {}

    def lift(self, by):
        self.foot += by
        self.marks = {height + by: mark for height, mark in self.marks.items()}

    def column(self):
        beds, start = [], 0
        for at, rock in enumerate(self.cells):
            mark = self.marks.get(self.foot + at + 1)
            if mark or self.cells[at + 1:at + 2] != [rock]:
                beds.append((rock, at + 1 - start, mark))
                start = at + 1
        return Column(self.foot, beds, root=self.root, mark=self.marks.get(self.foot))


class Ground:
    """A section of such columns, on which events act by their attributes."""

    def __init__(self, width):
        self.columns = [Cells() for _ in range(width)]

    def do(self, event):
        width = len(self.columns)
        if isinstance(event, (Lay, Cut)):
            first, last = event.span or (0, width - 1)
            for cells in self.columns[first:last + 1]:
                act = cells.lay if isinstance(event, Lay) else cells.cut
                act(event.item[1], event.level)
        elif isinstance(event, Dike):
            self.columns[event.at].dike(event.item[1], event.level)
        else:
            for at, cells in enumerate(self.columns):
                cells.lift(lift_at(event, at))

    def section(self):
        return Section([cells.column() for cells in self.columns])


def lift_at(event, at):
    if isinstance(event, Fault):
        return event.throw if at >= event.at else 0
    return event.slope * at if isinstance(event, Tilt) else event.lifts[at]


def some_span(numbers, width):
    if numbers.below(2):
        return None
    first = numbers.below(width)
    return first, numbers.between(first, width - 1)


def some_event(numbers, width):
    """Any event for a section of this width."""
    kind, name, level = numbers.below(16), numbers.one_of("abc"), numbers.between(-6, 6)
    if kind < 6:
        return Lay(name, level, span=some_span(numbers, width))
    if kind < 10:
        return Cut(name, level, span=some_span(numbers, width))
    if kind < 12:
        return Dike(name, numbers.below(width), level)
    if kind < 13:
        return Lift([numbers.between(-3, 3) for _ in range(width)])
    return Fault(numbers.below(width), numbers.between(-3, 3)) if kind < 15 else Tilt(numbers.between(-2, 2))


def some_section(numbers, width):
    """Any section of this width that some events make."""
    ground = Ground(width)
    for _ in range(numbers.below(12)):
        ground.do(some_event(numbers, width))
    return ground.section()
