"""All errors of the program. Each has its fields as attributes, in the order in which it is given them."""


def copied(value):
    """A field may be a caller's list: what becomes of that list later must not change the error."""
    if isinstance(value, list):
        return [copied(part) for part in value]
    if isinstance(value, tuple):
        return tuple([copied(part) for part in value])
    if isinstance(value, dict):
        return {key: copied(value[key]) for key in value}
    return value


class InvalidName(ValueError):
    """The value is not a string of one to eight letters from a to z."""

    def __init__(self, value):
        self.value = copied(value)


class InvalidLevel(ValueError):
    """The value is not an integer."""

    def __init__(self, value):
        self.value = copied(value)


class InvalidBeds(ValueError):
    """The value is not a row of beds, or two neighbours of one rock have no mark between them."""

    def __init__(self, value):
        self.value = copied(value)


class InvalidColumns(ValueError):
    """The value is not a row of columns, or not of the right length."""

    def __init__(self, value):
        self.value = copied(value)


class InvalidEvent(ValueError):
    """The value is not an event."""

    def __init__(self, value):
        self.value = copied(value)


class InvalidSpan(ValueError):
    """The value is not a span of columns."""

    def __init__(self, value):
        self.value = copied(value)


class InvalidOrder(ValueError):
    """The value is not an order that fits the section, or not an item of it."""

    def __init__(self, value):
        self.value = copied(value)


class InvalidSpans(ValueError):
    """The value does not give spans to the events of the order."""

    def __init__(self, value):
        self.value = copied(value)


class InvalidLimit(ValueError):
    """The value is not a number of events that can be the limit."""

    def __init__(self, value):
        self.value = copied(value)


class WrongWidth(ValueError):
    """No section has this width, or not this section."""

    def __init__(self, width):
        self.width = copied(width)


class Repeated(ValueError):
    """The item occurs more than once where it may occur once."""

    def __init__(self, item):
        self.item = copied(item)


class Ringed(ValueError):
    """No order fits, for each item of the ring stands before the next one."""

    def __init__(self, ring):
        self.ring = copied(ring)


class ParseError(ValueError):
    """The word with this index, in the line with this index, cannot stand there."""

    def __init__(self, line, word):
        self.line = copied(line)
        self.word = copied(word)


class NoColumn(IndexError):
    """There is no column with this index."""

    def __init__(self, at):
        self.at = copied(at)


class NoPlace(IndexError):
    """There is no place with this index."""

    def __init__(self, at):
        self.at = copied(at)


class NoField(LookupError):
    """There is no field with this name."""

    def __init__(self, name):
        self.name = copied(name)


class TooMany(OverflowError):
    """There would be more than the most that there may be."""

    def __init__(self, most):
        self.most = copied(most)


class Stopped(RuntimeError):
    """The event with this index raised this error."""

    def __init__(self, index, error):
        self.index = copied(index)
        self.error = copied(error)


class NothingToUndo(RuntimeError):
    """No step stands that could be taken back."""


class NothingToRedo(RuntimeError):
    """No step was taken back that could be done again."""
