"""The texts of sections, there and back."""

from rockbeds.columns import Column
from rockbeds.errors import ParseError
from rockbeds.sections import Section
from tests.case import GREAT, Case, any_values

THIRTY = "123456789012345678901234567890"
SIXTY = "9" * 60

PAIRS = [
    ("0", [Column()]),
    ("0\n0\n0", [Column(), Column(), Column()]),
    ("-7#basalt~storm clay:4 sand:2~gale sand:1\n5",
     [Column(-7, [("clay", 4, None), ("sand", 2, "gale"), ("sand", 1, None)], root="basalt", mark="storm"),
      Column(5)]),
    ("2#basalt", [Column(2, root="basalt")]),
    ("-1~storm", [Column(-1, mark="storm")]),
    ("0 clay:4~storm", [Column(0, [("clay", 4, "storm")])]),
    ("10 a:1 b:1 a:1", [Column(10, [("a", 1, None), ("b", 1, None), ("a", 1, None)])]),
    ("0#clay~clay clay:2~clay clay:3", [Column(0, [("clay", 2, "clay"), ("clay", 3, None)], root="clay", mark="clay")]),
    (THIRTY + " clay:" + THIRTY, [Column(int(THIRTY), [("clay", int(THIRTY), None)])]),
    ("-" + SIXTY + "#clayclay clayclay:" + SIXTY + "~stormsto",
     [Column(-int(SIXTY), [("clayclay", int(SIXTY), "stormsto")], root="clayclay")]),
    ("\n".join(["0"] * 12), [Column()] * 12),
]


class TextTest(Case):

    def test_there(self):
        for text, columns in PAIRS:
            self.same(Section(columns).text(), text)

    def test_back(self):
        for text, columns in PAIRS:
            self.equal(Section.read(text), Section(columns))
            self.equal(Section.read(text=text), Section(columns))

    def test_there_and_back(self):
        section = Section([Column(-GREAT, root="a"), Column(3, [("b", GREAT, "c"), ("b", 1, "d")], mark="e")])
        self.equal(Section.read(section.text()), section)


class ParseTest(Case):

    def parse_error(self, line, word, text):
        with self.subTest(text=text):
            self.refused(ParseError(line, word), Section.read, text)

    def test_no_string(self):
        for value in any_values() + [Section.flat(1), ["0"], b"0"]:
            if not isinstance(value, str):
                self.parse_error(0, 0, value)

    def test_empty_words_and_lines(self):
        self.parse_error(0, 0, "")
        self.parse_error(0, 0, " ")
        self.parse_error(0, 0, " 0")
        self.parse_error(0, 1, "0 ")
        self.parse_error(0, 1, "0  clay:4")
        self.parse_error(0, 2, "0 clay:4 ")
        self.parse_error(0, 0, "\n0")
        self.parse_error(1, 0, "0\n")
        self.parse_error(1, 0, "0\n\n0")
        self.parse_error(2, 0, "0\n0\n")
        self.parse_error(1, 1, "0\n0 \n0")

    def test_numbers(self):
        for number in ["1" + SIXTY, "-1" + SIXTY, "00", "01", "-0", "-01", "+1", "--1", "-", "1-", "1.0", "1_0",
                       "x", "0x1", "1e3", "\t1", "0" * 61, "\u0661", "\u00b2"]:
            self.parse_error(0, 0, number)
            self.parse_error(1, 0, "0\n" + number + "#basalt clay:4")
            self.parse_error(0, 0, number + "~storm")
            self.parse_error(0, 1, "0 clay:" + number)
            self.parse_error(0, 2, "0 clay:1 sand:" + number + "~storm sand:0")

    def test_a_thickness_is_from_one(self):
        for number in ["0", "-1", "-4", "-" + SIXTY]:
            self.parse_error(0, 1, "0 clay:" + number)

    def test_words_cut_short(self):
        for word in ["#", "~", "0#", "0~", "0#basalt~", "0#~storm", "#basalt", "~storm", "clay", "clay:4", ":"]:
            self.parse_error(0, 0, word)
            self.parse_error(1, 0, "0 clay:4\n" + word + " clay:4")
        for word in ["clay", "clay:", ":4", ":", "clay:4~", "clay~storm", "clay:~storm", "~storm", "4", "0", "~", "#"]:
            self.parse_error(0, 1, "0 " + word)
            self.parse_error(0, 2, "0 chalk:1 " + word + " chalk:1")

    def test_wrong_signs(self):
        for word in ["0:basalt", "0~storm#basalt", "0#basalt#basalt", "0~storm~storm", "0#basalt:storm", "0~storm:4",
                     "0 #basalt", "0 ~storm", "0#basalt ~storm", "0-", "0,", "0#basalt-", "0#a~b~c", "0##a", "0~~a"]:
            self.parse_error(0, word.count(" "), word)
        for word in ["clay#4", "clay~4", "clay:4#storm", "clay:4:storm", "clay:4:4", "clay::4", "clay:4~~storm",
                     "clay:storm~4", "4:clay", "clay:4~storm~gale", "clay;4", "clay=4", "clay:4~storm:4",
                     "clay#basalt:4", "clay~storm:4"]:
            self.parse_error(0, 1, "0 " + word)

    def test_names(self):
        for name in ["Clay", "clayclayc", "cl4y", "cl-ay", "", "clay.", "CLAY"]:
            self.parse_error(0, 0, "0#" + name)
            self.parse_error(0, 0, "0~" + name)
            self.parse_error(0, 0, "0#basalt~" + name)
            self.parse_error(0, 1, "0 " + name + ":4")
            self.parse_error(0, 1, "0 clay:4~" + name)

    def test_a_word_too_many(self):
        self.parse_error(0, 1, "0 0")
        self.parse_error(0, 2, "0 clay:4 0")
        self.parse_error(0, 2, "0 clay:4 sand")
        self.parse_error(1, 2, "0\n0 clay:4 #basalt\n0")

    def test_a_bed_of_the_same_rock_without_a_mark_between(self):
        self.parse_error(0, 2, "0 clay:4 clay:2")
        self.parse_error(0, 2, "0 clay:4 clay:2~storm clay:1 clay:1")
        self.parse_error(1, 4, "0\n0 clay:4~storm clay:2 sand:1 sand:1")
        self.equal(Section.read("0 clay:4~storm clay:2").tops, (6,))

    def test_the_first_line_that_cannot_stand_and_its_first_word(self):
        self.parse_error(1, 1, "0\n0 x y\nz\n0")
        self.parse_error(0, 3, "0 a:1 b:1 b:1 c:0\n-0")

    def test_thirteen_columns(self):
        self.parse_error(12, 0, "\n".join(["0"] * 13))
        self.parse_error(12, 0, "\n".join(["0 clay:4"] * 20))

    def test_a_line_that_cannot_stand_comes_before_too_many_lines(self):
        self.parse_error(13, 1, "\n".join(["0"] * 13 + ["0 x"]))
        self.parse_error(12, 0, "\n".join(["0"] * 12 + [""]))
        self.parse_error(3, 0, "\n".join(["0"] * 3 + ["-0"] + ["0"] * 12))

    def test_other_white_space_is_no_space(self):
        self.parse_error(0, 0, "0\tclay:4")
        self.parse_error(0, 0, "0\r\n0")
        self.parse_error(0, 0, "0\x0b0")
