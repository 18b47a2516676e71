"""What can be seen in a section: contacts, what lies between two levels, tables and pictures."""

from rockbeds.errors import NoField
from rockbeds.words import column_text

FIELDS = ("column", "level", "below", "above", "mark")


def column_contacts(at, column):
    """The contacts of the column with this index, from below."""
    found = []
    level = column.foot
    below = column.root
    mark = column.mark
    for rock, thickness, next_mark in column.beds:
        found.append((at, level, below, rock, mark))
        level = level + thickness
        below = rock
        mark = next_mark
    found.append((at, level, below, None, mark))
    return found


def is_wanted(contact, wanted):
    """Whether each field of the contact that is a key is equal to the key's value."""
    return all([field not in wanted or part == wanted[field] for field, part in zip(FIELDS, contact)])


def contacts(section, **wanted):
    """The contacts whose fields have the wanted values, column by column, from below."""
    for name in wanted:
        if name not in FIELDS:
            raise NoField(name)
    for at, column in enumerate(section.columns):
        for contact in column_contacts(at, column):
            if is_wanted(contact, wanted):
                yield contact


def core(section, at, low, high):
    """What the column shows between two levels, from below: tuples (kind, rock, from, to)."""
    column = section[at]
    pieces = [("root", column.root, low, column.foot)]
    level = column.foot
    for rock, thickness, _ in column.beds:
        pieces.append(("bed", rock, level, level + thickness))
        level = level + thickness
    pieces.append(("air", None, level, high))
    inside = [(kind, rock, max(start, low), min(end, high)) for kind, rock, start, end in pieces]
    return [piece for piece in inside if piece[2] < piece[3]]


def spread(section, rock):
    """The thickness of this rock in each column."""
    return tuple([column.thickness(rock) for column in section.columns])


def table(section):
    """A line for each column below a line of headings."""
    lines = [" at    foot     top beds column"]
    for at, column in enumerate(section.columns):
        lines.append(f"{at:>3}{column.foot:>8}{column.top:>8}{len(column):>5} {column_text(column)}")
    return "\n".join(lines)


def letter_of(kind, rock):
    """How a piece of a core looks in a picture."""
    if kind == "bed":
        return rock[0]
    return "#" if kind == "root" else "."


def drawn_column(section, at, low, high):
    """The picture of one column, from below."""
    return "".join([letter_of(kind, rock) * (end - start) for kind, rock, start, end in core(section, at, low, high)])


def picture(section, low, high):
    """A string for each level, from above, with a character for each column."""
    drawn = [drawn_column(section, at, low, high) for at in range(len(section))]
    return ["".join([letters[row] for letters in drawn]) for row in reversed(range(high - low))]
