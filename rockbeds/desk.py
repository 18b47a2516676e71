"""A desk: it keeps a survey, and is spoken to in rows of words."""

from rockbeds.contacts import table
from rockbeds.errors import ParseError
from rockbeds.event_words import FORMS, read_values
from rockbeds.events import event_of_line
from rockbeds.surveys import Survey
from rockbeds.texts import order_text
from rockbeds.words import column_text


def in_one_row(text):
    """A text as a part of an answer."""
    return "nothing" if text == "" else text.replace("\n", " / ")


def take_back(survey):
    survey.undo()
    return "ok"


def do_again(survey):
    survey.redo()
    return "ok"


def tell_section(survey):
    return in_one_row(survey.section.text())


def tell_history(survey):
    return in_one_row(survey.history.text())


def tell_table(survey):
    return in_one_row(table(survey.section))


def tell_reading(survey):
    reading = survey.reading()
    return str(reading.lifts) + " " + in_one_row(reading.history.text())


def tell_order(survey):
    return in_one_row(order_text(survey.history.order))


def tell_amount(survey, rock):
    return str(survey.section.amounts().get(rock, 0))


def tell_column(survey, at):
    return column_text(survey.section[at])


ROWS = {
    "undo": (),
    "redo": (),
    "section": (),
    "history": (),
    "table": (),
    "reading": (),
    "order": (),
    "amount": ("name",),
    "at": ("number",),
}

ANSWERS = {
    "undo": take_back,
    "redo": do_again,
    "section": tell_section,
    "history": tell_history,
    "table": tell_table,
    "reading": tell_reading,
    "order": tell_order,
    "amount": tell_amount,
    "at": tell_column,
}


class Desk:
    """A survey that rows of words change and ask."""

    def __init__(self, width):
        self._survey = Survey(width)

    def say(self, row):
        """The answer to a row of words."""
        if not isinstance(row, str):
            raise ParseError(0, 0)
        words = row.split(" ")
        if words[0] in FORMS:
            self._survey.do(event_of_line(row, 0))
            return "ok"
        if words[0] not in ROWS:
            raise ParseError(0, 0)
        values = read_values(words, ROWS[words[0]], 0)
        answer = ANSWERS[words[0]]
        return answer(self._survey, *values)
