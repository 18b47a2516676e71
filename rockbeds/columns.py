"""A column of beds of rock on a root, and what events do to it."""

from rockbeds.errors import InvalidBeds, InvalidLevel, InvalidName, NoPlace

LONGEST_NAME = 8


def is_name(value):
    """Whether any value is a name: one to eight letters from a to z."""
    if not isinstance(value, str) or not 1 <= len(value) <= LONGEST_NAME:
        return False
    return all(["a" <= letter <= "z" for letter in value])


def is_level(value):
    """Whether any value is an integer; a bool is none."""
    return isinstance(value, int) and not isinstance(value, bool)


def is_index(value, count):
    """Whether any value is an index of something that has so many parts."""
    return is_level(value) and 0 <= value < count


def need_name(value):
    if not is_name(value):
        raise InvalidName(value)


def need_level(value):
    if not is_level(value):
        raise InvalidLevel(value)


def need_name_or_none(value):
    if value is not None:
        need_name(value)


def is_bed(value):
    """Whether any value is a tuple (rock, thickness, mark) that can be a bed."""
    if not isinstance(value, tuple) or len(value) != 3:
        return False
    rock, thickness, mark = value
    if not is_name(rock) or not is_level(thickness) or thickness < 1:
        return False
    return mark is None or is_name(mark)


def merges(bed, rock):
    """Whether this rock, right above the bed, cannot be told from it."""
    return bed[0] == rock and bed[2] is None


def are_beds(value):
    """Whether any value is a row of beds that can lie on each other."""
    if not isinstance(value, (list, tuple)):
        return False
    if not all([is_bed(bed) for bed in value]):
        return False
    return not any([merges(lower, upper[0]) for lower, upper in zip(value, value[1:])])


def column_items(column):
    """The items of one column, from below."""
    found = []
    if column.root is not None:
        found.append(("dike", column.root))
    if column.mark is not None:
        found.append(("cut", column.mark))
    for rock, _, mark in column.beds:
        found.append(("lay", rock))
        if mark is not None:
            found.append(("cut", mark))
    return found


class Column:
    """A root up to the foot, and the beds on it, each a tuple (rock, thickness, mark). It never changes."""

    def __init__(self, foot=0, beds=(), *, root=None, mark=None):
        need_level(foot)
        if not are_beds(beds):
            raise InvalidBeds(beds)
        need_name_or_none(root)
        need_name_or_none(mark)
        self._foot = foot
        self._beds = tuple([(bed[0], bed[1], bed[2]) for bed in beds])
        self._root = root
        self._mark = mark

    @property
    def foot(self):
        return self._foot

    @property
    def beds(self):
        return self._beds

    @property
    def root(self):
        return self._root

    @property
    def mark(self):
        return self._mark

    @property
    def top(self):
        return self._foot + sum([bed[1] for bed in self._beds])

    def __eq__(self, other):
        return (isinstance(other, Column) and self._foot == other._foot and self._beds == other._beds
                and self._root == other._root and self._mark == other._mark)

    def __len__(self):
        return len(self._beds)

    def __contains__(self, rock):
        return rock in [bed[0] for bed in self._beds]

    def __getitem__(self, at):
        if not is_index(at, len(self._beds)):
            raise NoPlace(at)
        return self._beds[at]

    def __iter__(self):
        raise TypeError("a column is not iterated over, its beds are")

    def laid(self, rock, level):
        """The column after a Lay: a bed of this rock up to the level, if the column ends below it."""
        need_name(rock)
        need_level(level)
        beds = list(self._beds)
        thickness = level - self.top
        if thickness > 0:
            if beds and merges(beds[-1], rock):
                thickness = thickness + beds.pop()[1]
            beds.append((rock, thickness, None))
        return self._with_beds(beds)

    def cut_to(self, name, level):
        """The column after a Cut: what lies above the level is gone, and the contact there is marked."""
        need_name(name)
        need_level(level)
        if self.top < level:
            return self._with_beds(self._beds)
        if level <= self._foot:
            return Column(level, root=self._root, mark=name)
        kept = []
        floor = self._foot
        for rock, thickness, mark in self._beds:
            if floor + thickness >= level:
                kept.append((rock, level - floor, name))
                break
            kept.append((rock, thickness, mark))
            floor = floor + thickness
        return self._with_beds(kept)

    def turned(self, rock, level):
        """The column after a Dike: all root up to the level."""
        need_name(rock)
        need_level(level)
        return Column(level, root=rock)

    def lifted(self, by):
        """The column after it rose by this integer, also 0 or negative."""
        need_level(by)
        return Column(self._foot + by, self._beds, root=self._root, mark=self._mark)

    def thickness(self, rock):
        """The sum of the thicknesses of the beds of this rock, 0 if there is none."""
        return sum([bed[1] for bed in self._beds if bed[0] == rock])

    def _with_beds(self, beds):
        return Column(self._foot, beds, root=self._root, mark=self._mark)
