"""How events are written as lines of words, and how such lines are read."""

from rockbeds.columns import is_index, is_name
from rockbeds.errors import ParseError
from rockbeds.sections import Section
from rockbeds.words import is_number

FORMS = {
    "lay": ("name", "number"),
    "cut": ("name", "number"),
    "dike": ("name", "column", "number"),
    "lift": ("number",),
    "fault": ("column", "number"),
    "tilt": ("number",),
}


def line_of(words):
    """The line of these words, some of them numbers."""
    return " ".join([str(word) for word in words])


def forms_of(words):
    """The forms of the words that must follow the first one, which is a kind of event."""
    kind = words[0]
    forms = FORMS[kind]
    if kind in ("lay", "cut") and len(words) > 1 + len(forms):
        return forms + ("column", "last column")
    if kind == "lift":
        return forms * min(max(len(words) - 1, 1), Section.MOST_COLUMNS)
    return forms


def can_stand(words, at, form):
    """Whether the word with this index has this form, if the words before it can stand."""
    word = words[at]
    if form == "name":
        return is_name(word)
    if not is_number(word):
        return False
    if form == "number":
        return True
    if form == "last column" and int(word) < int(words[at - 1]):
        return False
    return is_index(int(word), Section.MOST_COLUMNS)


def read_values(words, forms, line):
    """The list of the names and numbers behind the first word, which must have these forms.

    The index of the line is for the error.
    """
    values = []
    for at, form in enumerate(forms, start=1):
        if at == len(words) or not can_stand(words, at, form):
            raise ParseError(line, at)
        values.append(words[at] if form == "name" else int(words[at]))
    if len(words) > 1 + len(forms):
        raise ParseError(line, 1 + len(forms))
    return values


def read_event_words(text, line):
    """The kind of the event of one line, and the list of its names and numbers, those of a span at its end."""
    words = text.split(" ")
    if words[0] not in FORMS:
        raise ParseError(line, 0)
    return words[0], read_values(words, forms_of(words), line)
