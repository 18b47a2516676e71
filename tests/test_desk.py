"""The desk: each row, its answer, and what is refused."""

from rockbeds.contacts import table
from rockbeds.desk import Desk
from rockbeds.errors import (InvalidOrder, NoColumn, NothingToRedo, NothingToUndo, ParseError, Repeated, TooMany,
                             WrongWidth)
from rockbeds.events import History
from rockbeds.readings import Reading
from rockbeds.sections import Section
from rockbeds.texts import order_text
from tests.case import GREAT, Case, any_values
from tests.cells import Numbers
from tests.samples import some_sample

ASKED = ["section", "history", "order", "table", "reading", "amount a", "amount b", "at 0", "at 1"]


def told(desk, rows):
    """The answers to rows that ask, errors among them."""
    answers = []
    for row in rows:
        try:
            answers.append(desk.say(row))
        except (Repeated, InvalidOrder, NoColumn) as error:
            answers.append((type(error), vars(error)))
    return answers


class DeskCase(Case):

    def says(self, desk, row, wanted):
        self.same(desk.say(row), wanted)

    def filled(self, width, *rows):
        desk = Desk(width)
        for row in rows:
            self.says(desk, row, "ok")
        return desk


class RowTest(DeskCase):

    def test_at_first(self):
        desk = Desk(2)
        self.says(desk, "section", "0 / 0")
        self.says(desk, "history", "nothing")
        self.says(desk, "order", "nothing")
        self.says(desk, "reading", "0 nothing")
        rows = ["  0       0       0    0 0", "  1       0       0    0 0"]
        self.says(desk, "table", " at    foot     top beds column / " + " / ".join(rows))
        self.says(desk, "amount clay", "0")
        self.says(desk, "at 0", "0")
        self.same(Desk(width=1).say(row="section"), "0")

    def test_each_event(self):
        rows = ["lay clay 4", "lay sand 6 0 1", "cut storm 5", "cut gale 3 1 2", "dike basalt 2 -4", "lift 1 -2 3",
                "fault 1 5", "tilt -3"]
        desk = self.filled(3, *rows)
        history = History.read("\n".join(rows))
        section = history(Section.flat(3))
        self.says(desk, "history", " / ".join(rows))
        self.says(desk, "section", section.text().replace("\n", " / "))
        self.says(desk, "table", table(section).replace("\n", " / "))
        self.says(desk, "order", order_text(history.order))
        self.says(desk, "order", "+clay +sand ~storm ~gale #basalt")
        reading = Reading(section, history.order, spans=history.spans)
        self.says(desk, "reading", str(reading.lifts) + " " + reading.history.text().replace("\n", " / "))
        for at in range(3):
            self.says(desk, "at " + str(at), section.text().split("\n")[at])
        for rock in ["clay", "sand", "storm", "basalt", "chalk"]:
            self.says(desk, "amount " + rock, str(section.amounts().get(rock, 0)))

    def test_one_reading(self):
        desk = self.filled(2, "lay clay 4", "fault 1 3", "cut storm 5")
        self.says(desk, "section", "0 clay:4 / 3 clay:2~storm")
        self.says(desk, "reading", "1 lay clay 4 / lift 0 3 / cut storm 5")
        self.says(desk, "amount clay", "6")
        self.says(desk, "at 1", "3 clay:2~storm")

    def test_undo_and_redo(self):
        desk = self.filled(2, "lay clay 4", "tilt 1", "undo")
        self.says(desk, "history", "lay clay 4")
        self.says(desk, "redo", "ok")
        self.says(desk, "history", "lay clay 4 / tilt 1")
        self.filled(2)
        for row in ["undo", "undo"]:
            self.says(desk, row, "ok")
        self.says(desk, "history", "nothing")
        self.says(desk, "section", "0 / 0")
        self.refused(NothingToUndo(), desk.say, "undo")
        self.says(desk, "redo", "ok")
        self.says(desk, "cut storm -1", "ok")
        self.refused(NothingToRedo(), desk.say, "redo")
        self.says(desk, "section", "-1~storm / -1~storm")

    def test_only_lifts(self):
        desk = self.filled(2, "tilt 1", "tilt 1")
        self.says(desk, "order", "nothing")
        self.says(desk, "reading", "1 lift 0 2")
        self.says(self.filled(2, "tilt 1", "tilt -1"), "reading", "0 nothing")

    def test_items_that_occur_more_than_once(self):
        desk = self.filled(1, "lay clay 4", "lay clay 5")
        self.says(desk, "order", "+clay +clay")
        self.refused(Repeated(("lay", "clay")), desk.say, "reading")
        desk = self.filled(1, "dike a 0 1", "dike b 0 2")
        self.refused(InvalidOrder((("dike", "a"), ("dike", "b"))), desk.say, "reading")

    def test_at(self):
        desk = self.filled(2, "lay clay 4")
        for number in [2, 11, 12, -1, -2, 10 ** 30, -10 ** 30, GREAT]:
            self.refused(NoColumn(number), desk.say, "at " + str(number))
        self.says(desk, "at 1", "0 clay:4")
        self.says(self.filled(12, "fault 11 5"), "at 11", "5")

    def test_names_that_are_words_of_other_rows(self):
        rows = ["lay lay 1", "lay undo 2", "cut section 2", "dike reading 0 5", "cut at 4", "lay amount 9"]
        desk = self.filled(2, *rows)
        self.says(desk, "history", " / ".join(rows))
        self.says(desk, "order", "+lay +undo ~section #reading ~at +amount")
        self.says(desk, "amount lay", "1")
        self.says(desk, "amount undo", "1")
        self.says(desk, "amount amount", "12")
        self.says(desk, "amount at", "0")

    def test_great_levels(self):
        desk = self.filled(1, "lay clay " + str(GREAT))
        self.says(desk, "amount clay", str(GREAT))
        self.says(desk, "section", "0 clay:" + str(GREAT))
        self.says(desk, "reading", "0 lay clay " + str(GREAT))


class RefusedTest(DeskCase):

    def test_widths(self):
        for value in any_values() + [0, 13, -1]:
            if type(value) is not int or not 1 <= value <= 12:
                self.refused(WrongWidth(value), Desk, value)
        self.assertRaises(TypeError, Desk)

    def parse_error(self, word, row):
        with self.subTest(row=row):
            desk = self.filled(3, "lay a 2", "tilt 1", "undo")
            before = told(desk, ASKED)
            self.refused(ParseError(0, word), desk.say, row)
            self.assertEqual(told(desk, ASKED), before)
            self.says(desk, "redo", "ok")

    def test_any_value(self):
        for value in any_values() + [["section"], b"section", ("at", "1")]:
            if not isinstance(value, str):
                self.parse_error(0, value)
        for value in ["", "clay", "Clay", "cl ay", "1", " ", "\n"]:
            self.parse_error(0, value)

    def test_first_words(self):
        for word in ["Undo", "sections", "sec", "amounts", "atlas", "a", "lays", "limit", "batch", "trial", "ok", "#"]:
            self.parse_error(0, word)
            self.parse_error(0, word + " clay 4")

    def test_a_word_too_many(self):
        for row in ["undo", "redo", "section", "history", "table", "reading", "order"]:
            self.parse_error(1, row + " 1")
            self.parse_error(1, row + " ")
            self.parse_error(1, row + " " + row)
            self.parse_error(0, " " + row)
            self.parse_error(0, row + "\n")
            self.parse_error(0, row + "\n" + row)
        for row in ["amount clay", "at 1", "tilt 1"]:
            for more in [" 1", " ", " clay", "  1"]:
                self.parse_error(2, row + more)
        self.parse_error(3, "lay clay 4 x")
        self.parse_error(4, "dike a 1 2 3")
        self.parse_error(3, "fault 1 2 3")
        self.parse_error(4, "lift 1 2 3 x")

    def test_a_word_too_few(self):
        self.parse_error(1, "amount")
        self.parse_error(1, "at")
        for row in ["lay clay 4", "dike clay 1 4", "fault 1 4", "tilt 4", "lift 4", "cut clay 4 0 1"]:
            words = row.split(" ")
            for count in range(1, len(words)):
                if words[:count] != ["cut", "clay", "4"]:
                    self.parse_error(count, " ".join(words[:count]))

    def test_words_that_cannot_stand(self):
        for word in ["", "Clay", "clayclayc", "cl4y", "4", "clay\n", "+clay", "\nclay"]:
            self.parse_error(1, "amount " + word)
            self.parse_error(1, "lay " + word + " 4")
        for word in ["", "x", "01", "-0", "+1", "--1", "1.0", "1\n", "1" * 61, "-" + "1" * 61, "\n1", "1\n2"]:
            self.parse_error(1, "at " + word)
            self.parse_error(1, "tilt " + word)
            self.parse_error(2, "lay clay " + word)
        self.refused(NoColumn(int("1" * 60)), Desk(1).say, "at " + "1" * 60)
        self.parse_error(2, "amount clay 1\n")
        self.parse_error(2, "lay clay 4\ntilt 1")
        self.parse_error(4, "lay clay 4 2 1")
        self.parse_error(1, "fault 12 1")

    def test_what_the_survey_raises(self):
        desk = self.filled(3, "lay a 2", "tilt 1", "undo")
        before = told(desk, ASKED)
        for row, error in [("dike a 3 1", NoColumn(3)), ("fault 11 1", NoColumn(11)), ("lift 1 2", WrongWidth(3)),
                           ("lay b 9 1 3", NoColumn(3)), ("cut b 0 4 5", NoColumn(5)), ("at 3", NoColumn(3)),
                           ("at -1", NoColumn(-1))]:
            self.refused(error, desk.say, row)
            self.assertEqual(told(desk, ASKED), before)
        self.says(desk, "redo", "ok")
        self.refused(NothingToRedo(), desk.say, "redo")

    def test_sixty_events(self):
        desk = self.filled(2, *["tilt 1"] * 60)
        self.refused(TooMany(60), desk.say, "tilt 1")
        self.refused(TooMany(60), desk.say, "dike a 5 1")
        self.refused(ParseError(0, 1), desk.say, "tilt x")
        self.says(desk, "reading", "1 lift 0 60")
        self.says(desk, "undo", "ok")
        self.says(desk, "tilt 2", "ok")


class ToldAgainTest(DeskCase):

    def test_what_a_desk_tells_said_to_another_one(self):
        numbers = Numbers(551)
        for round_ in range(60):
            sample = some_sample(numbers, 2 + round_ % 11, 14)
            rows = sample.known.text().split("\n") if len(sample.known) else []
            desk = self.filled(sample.width, *rows)
            history = desk.say("history")
            self.says(desk, "history", " / ".join(rows) or "nothing")
            other = self.filled(sample.width, *([] if history == "nothing" else history.split(" / ")))
            self.assertEqual(told(other, ASKED), told(desk, ASKED))
            self.says(desk, "section", sample.section.text().replace("\n", " / "))
            self.check_reading(desk, sample)

    def check_reading(self, desk, sample):
        lifts, _, reading = desk.say("reading").partition(" ")
        played = self.filled(sample.width, *([] if reading == "nothing" else reading.split(" / ")))
        self.same(played.say("section"), desk.say("section"))
        self.same(played.say("order"), desk.say("order"))
        self.same(played.say("reading").partition(" ")[0], lifts)
        self.assertLessEqual(int(lifts), sample.known.lifts)

    def test_equal_calls(self):
        desk = self.filled(3, "lay a 2", "tilt 1", "dike b 0 4", "cut x 1 0 1")
        self.assertEqual(told(desk, ASKED), told(desk, ASKED))
