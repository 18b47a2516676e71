"""A section: a row of columns, from left to right."""

from rockbeds.columns import Column, column_items, is_index, is_level, need_name
from rockbeds.errors import InvalidColumns, NoColumn, ParseError, Repeated, TooMany, WrongWidth
from rockbeds.words import column_text, read_column


def is_width(value):
    """Whether any value is a number of columns that a section may have."""
    return is_level(value) and 1 <= value <= Section.MOST_COLUMNS


def need_width(value):
    if not is_width(value):
        raise WrongWidth(value)


def are_columns(value):
    """Whether any value is a row of columns that can be a section."""
    if not isinstance(value, (list, tuple)) or not is_width(len(value)):
        return False
    return all([isinstance(column, Column) for column in value])


def section_items(columns):
    """The items of these columns, ascending, each once."""
    return sorted({item for column in columns for item in column_items(column)})


def names_of(columns, kind):
    """The names of the items of one kind, ascending."""
    return tuple([item[1] for item in section_items(columns) if item[0] == kind])


def need_apart(columns, names):
    """Raise Repeated for items that become one: they could not be told apart any more."""
    after = sorted([(kind, names.get(name, name)) for kind, name in section_items(columns)])
    for item, other in zip(after, after[1:]):
        if item == other:
            raise Repeated(item)


def renamed_column(column, names):
    """The column with the new names; None, for no name, is never a key."""
    beds = [(names.get(rock, rock), thickness, names.get(mark, mark)) for rock, thickness, mark in column.beds]
    root = names.get(column.root, column.root)
    return Column(column.foot, beds, root=root, mark=names.get(column.mark, column.mark))


class Section:
    """A row of 1 to 12 columns. It never changes."""

    MOST_COLUMNS = 12

    def __init__(self, columns):
        if not are_columns(columns):
            raise InvalidColumns(columns)
        self._columns = tuple(columns)

    @classmethod
    def flat(cls, width):
        """So many columns of bedrock with foot 0, without beds and marks."""
        need_width(width)
        columns = [Column() for _ in range(width)]
        return cls(columns)

    @classmethod
    def read(cls, text):
        """The section with this text."""
        if not isinstance(text, str):
            raise ParseError(0, 0)
        columns = [read_column(row, line) for line, row in enumerate(text.split("\n"))]
        if len(columns) > cls.MOST_COLUMNS:
            raise ParseError(cls.MOST_COLUMNS, 0)
        return cls(columns)

    @property
    def columns(self):
        return self._columns

    @property
    def tops(self):
        return tuple([column.top for column in self._columns])

    @property
    def rocks(self):
        return names_of(self._columns, "lay")

    @property
    def marks(self):
        return names_of(self._columns, "cut")

    def __eq__(self, other):
        return isinstance(other, Section) and self._columns == other._columns

    def __len__(self):
        return len(self._columns)

    def __contains__(self, rock):
        return rock in self.rocks

    def __getitem__(self, at):
        if not is_index(at, len(self._columns)):
            raise NoColumn(at)
        return self._columns[at]

    def __iter__(self):
        raise TypeError("a section is not iterated over, its columns are")

    def __add__(self, other):
        if not isinstance(other, Section):
            return NotImplemented
        columns = self._columns + other._columns
        if len(columns) > Section.MOST_COLUMNS:
            raise TooMany(Section.MOST_COLUMNS)
        return Section(columns)

    def part(self, first, last):
        """The section of the columns from first to last."""
        for at in (first, last):
            if not is_index(at, len(self._columns)):
                raise NoColumn(at)
        if last < first:
            raise NoColumn(last)
        return Section(self._columns[first:last + 1])

    def mirrored(self):
        """The section with its columns in reverse order."""
        return Section(self._columns[::-1])

    def renamed(self, **names):
        """The section in which each rock, root and mark that is a keyword has the name that is its value."""
        for name in names.values():
            need_name(name)
        need_apart(self._columns, names)
        return Section([renamed_column(column, names) for column in self._columns])

    def amounts(self):
        """A dict from each rock of a bed, ascending, to the sum of the thicknesses of its beds."""
        return {rock: sum([column.thickness(rock) for column in self._columns]) for rock in self.rocks}

    def text(self):
        """A line for each column."""
        return "\n".join([column_text(column) for column in self._columns])
