"""The texts of events and histories, there and back."""

from rockbeds.errors import ParseError
from rockbeds.events import Cut, Dike, Fault, History, Lay, Lift, Tilt
from tests.case import GREAT, Case, any_values
from tests.cells import Numbers, some_event
from tests.test_events import some_events

SIXTY = "9" * 60
NO_NUMBERS = ["1" + SIXTY, "-1" + SIXTY, "0" * 61, "00", "01", "-0", "-01", "+1", "--1", "-", "1-", "1.0", "1_0", "x",
              "0x1", "\t1", "1\r", "\u0661", "\u00b2", "", "4:", "clay"]
NO_NAMES = ["", "Clay", "clayclayc", "cl4y", "4", "-4", "cl-ay", "clay:", "#clay", "~clay", "+clay"]
NO_COLUMNS = ["12", "13", "-1", "-11", "100", SIXTY] + NO_NUMBERS

PAIRS = [
    (Lay("clay", 4), "lay clay 4"),
    (Lay("clay", -4, span=(0, 11)), "lay clay -4 0 11"),
    (Lay("a", 0, span=(3, 3)), "lay a 0 3 3"),
    (Cut("storm", 4), "cut storm 4"),
    (Cut("clayclay", -GREAT, span=(10, 11)), "cut clayclay -" + str(GREAT) + " 10 11"),
    (Dike("basalt", 11, -2), "dike basalt 11 -2"),
    (Dike("lift", 0, int(SIXTY)), "dike lift 0 " + SIXTY),
    (Lift([0]), "lift 0"),
    (Lift([1, -2, 3]), "lift 1 -2 3"),
    (Lift([int(SIXTY), -int(SIXTY)] * 6), " ".join(["lift"] + [SIXTY, "-" + SIXTY] * 6)),
    (Fault(11, -3), "fault 11 -3"),
    (Fault(0, 0), "fault 0 0"),
    (Tilt(-3), "tilt -3"),
    (Tilt(GREAT), "tilt " + str(GREAT)),
]


class TextTest(Case):

    def test_events_there_and_back(self):
        for event, text in PAIRS:
            self.same(event.text(), text)
            self.same(History(event).text(), text)
            self.equal(History.read(text), History(event))
            self.equal(History.read(text=text)[0], event)

    def test_histories_there_and_back(self):
        events = [event for event, _ in PAIRS]
        text = "\n".join([text for _, text in PAIRS])
        self.same(History(*events).text(), text)
        self.equal(History.read(text), History(*events))
        self.equal(History.read(History(*some_events()).text()), History(*some_events()))

    def test_the_empty_history(self):
        self.same(History().text(), "")
        self.equal(History.read(""), History())

    def test_any_history(self):
        numbers = Numbers(11)
        for _ in range(100):
            history = History(*[some_event(numbers, numbers.between(1, 12)) for _ in range(numbers.below(20))])
            self.equal(History.read(history.text()), history)
            self.same(History.read(history.text()).text(), history.text())


class ParseTest(Case):

    def parse_error(self, line, word, text):
        """In this line, and also in the same line further down."""
        with self.subTest(text=text):
            self.refused(ParseError(line, word), History.read, text)
            self.refused(ParseError(line + 2, word), History.read, "tilt 1\nlay clay 4 0 1\n" + text)

    def test_no_string(self):
        for value in any_values() + [History(), [], ["tilt 1"], b"tilt 1", Tilt(1)]:
            if not isinstance(value, str):
                self.refused(ParseError(0, 0), History.read, value)

    def test_first_words(self):
        for word in ["Lay", "LAY", "lays", "la", "laylay", "section", "undo", "0", "4", "clay", "#", "lay:", "lay,4"]:
            self.parse_error(0, 0, word)
            self.parse_error(0, 0, word + " clay 4")

    def test_empty_words_and_lines(self):
        self.parse_error(0, 0, " ")
        self.parse_error(0, 0, " tilt 1")
        self.parse_error(0, 0, "  ")
        self.parse_error(0, 1, "tilt ")
        self.parse_error(0, 1, "tilt  1")
        self.parse_error(0, 2, "tilt 1 ")
        self.parse_error(0, 3, "lay clay 4 ")
        self.parse_error(0, 4, "lay clay 4 0 ")
        self.parse_error(0, 5, "lay clay 4 0 0 ")
        self.parse_error(0, 2, "lift 1 ")
        self.parse_error(0, 2, "lift 1  2")
        self.parse_error(1, 0, "tilt 1\n")
        self.parse_error(1, 0, "tilt 1\n\ntilt 1")
        self.refused(ParseError(0, 0), History.read, "\n")
        self.refused(ParseError(0, 0), History.read, "\ntilt 1")
        self.refused(ParseError(2, 0), History.read, "tilt 1\ntilt 2\n")

    def test_a_word_too_few(self):
        for event, text in PAIRS:
            words = text.split(" ")
            for count in range(1, len(words)):
                whole = words[0] in ("lay", "cut") and count == 3 or words[0] == "lift" and count > 1
                if not whole:
                    self.parse_error(0, count, " ".join(words[:count]))
                    self.parse_error(0, count, " ".join(words[:count]) + "\ntilt 1")

    def test_a_word_too_many(self):
        for text in ["dike basalt 11 -2", "fault 11 -3", "tilt -3", "lay clay 4 0 11", "cut clay 4 1 1",
                     "lift" + " 1" * 12]:
            for more in ["0", "x", "0 0", ""]:
                self.parse_error(0, text.count(" ") + 1, text + " " + more)
        self.equal(History.read("lift" + " 1" * 12), History(Lift([1] * 12)))

    def test_words_cut_short_and_spoilt_at_each_place(self):
        wrong = {"name": NO_NAMES, "number": NO_NUMBERS, "column": NO_COLUMNS}
        for text, forms in [("lay clay 4 0 11", ["name", "number", "column", "column"]),
                            ("cut clay 4 0 11", ["name", "number", "column", "column"]),
                            ("lay clay 4", ["name", "number"]), ("cut clay 4", ["name", "number"]),
                            ("dike clay 0 4", ["name", "column", "number"]), ("lift 1 2 3", ["number"] * 3),
                            ("lift" + " 1" * 12, ["number"] * 12), ("fault 0 4", ["column", "number"]),
                            ("tilt 4", ["number"])]:
            words = text.split(" ")
            for at, form in enumerate(forms, start=1):
                for word in wrong[form]:
                    self.parse_error(0, at, " ".join(words[:at] + [word] + words[at + 1:]))
                    self.parse_error(0, at, " ".join(words[:at] + [word] + ["-0"] * 20))
                    self.parse_error(0, at, " ".join(words[:at] + [word]))

    def test_columns_from_0_to_11(self):
        for at in range(12):
            self.equal(History.read("fault " + str(at) + " 1"), History(Fault(at, 1)))
            self.equal(History.read("dike a " + str(at) + " 1"), History(Dike("a", at, 1)))
            for last in range(12):
                for word, kind in [("lay", Lay), ("cut", Cut)]:
                    text = word + " a 1 " + str(at) + " " + str(last)
                    if last < at:
                        self.parse_error(0, 4, text)
                        self.parse_error(0, 4, text + " 1")
                    else:
                        self.equal(History.read(text), History(kind("a", 1, span=(at, last))))

    def test_sixty_and_sixty_one_lines(self):
        self.assertEqual(len(History.read("\n".join(["tilt 1"] * 60))), 60)
        self.refused(ParseError(60, 0), History.read, "\n".join(["tilt 1"] * 61))
        self.refused(ParseError(60, 0), History.read, "\n".join(["tilt 1"] * 80))
        self.refused(ParseError(60, 0), History.read, "\n".join(["tilt 1"] * 60) + "\n")
        self.refused(ParseError(70, 1), History.read, "\n".join(["tilt 1"] * 70 + ["tilt"]))
        self.refused(ParseError(7, 1), History.read, "\n".join(["tilt 1"] * 7 + ["tilt x"] + ["tilt 1"] * 70))

    def test_the_first_line_and_its_first_word(self):
        self.refused(ParseError(1, 2), History.read, "tilt 1\nlay clay x y\nz")
        self.refused(ParseError(0, 1), History.read, "lay Clay x 12 13\nlay")

    def test_signs_that_are_no_spaces(self):
        self.parse_error(0, 0, "lay\tclay 4")
        self.parse_error(0, 1, "tilt 1\r\ntilt 1")
        self.refused(ParseError(0, 1), History.read, "tilt 1\x0b")
