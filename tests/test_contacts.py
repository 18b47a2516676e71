"""Contacts, cores, tables and pictures."""

from rockbeds.columns import Column
from rockbeds.contacts import contacts, core, picture, spread, table
from rockbeds.errors import NoColumn, NoField
from rockbeds.sections import Section
from tests.case import GREAT, Case, any_values
from tests.cells import Numbers, some_section

THREE = "0 clay:4 sand:2~storm\n3#basalt~gale sand:1\n-5"
FIELDS = ["column", "level", "below", "above", "mark"]
ALL = [
    (0, 0, None, "clay", None),
    (0, 4, "clay", "sand", None),
    (0, 6, "sand", None, "storm"),
    (1, 3, "basalt", "sand", "gale"),
    (1, 4, "sand", None, None),
    (2, -5, None, None, None),
]
VALUES = [[0, 1, 2, 3], [-5, 0, 3, 4, 6, 5], [None, "clay", "sand", "basalt", "chalk"],
          [None, "clay", "sand", "basalt"], [None, "storm", "gale", "clay"]]


def three():
    return Section.read(THREE)


class ContactsTest(Case):

    def test_all(self):
        self.same(list(contacts(three())), ALL)
        self.same(list(contacts(section=three())), ALL)
        self.same(list(contacts(Section.flat(1))), [(0, 0, None, None, None)])

    def test_the_document(self):
        section = Section.read("0 clay:4 sand:2~storm\n3~storm")
        self.same(list(contacts(section, mark="storm")), [(0, 6, "sand", None, "storm"), (1, 3, None, None, "storm")])

    def test_each_keyword(self):
        for at, field in enumerate(FIELDS):
            for value in VALUES[at]:
                self.same(list(contacts(three(), **{field: value})), [row for row in ALL if row[at] == value])

    def test_two_and_more_keywords(self):
        for first in range(5):
            for second in range(5):
                for value in VALUES[first]:
                    for other in VALUES[second]:
                        if first != second:
                            wanted = {FIELDS[first]: value, FIELDS[second]: other}
                            self.same(list(contacts(three(), **wanted)),
                                      [row for row in ALL if row[first] == value and row[second] == other])
        for row in ALL:
            self.same(list(contacts(three(), **dict(zip(FIELDS, row)))), [row])
            self.same(list(contacts(three(), **dict(list(zip(FIELDS, row))[::-1]))), [row])
            self.same(list(contacts(three(), **{**dict(zip(FIELDS, row)), "level": 99})), [])

    def test_any_value(self):
        for at, field in enumerate(FIELDS):
            for value in any_values() + [(0, 0, None, "clay", None), 0 == 0]:
                self.same(list(contacts(three(), **{field: value})), [row for row in ALL if row[at] == value])
        self.same(list(contacts(three(), column=True)), ALL[3:5])
        self.same(list(contacts(three(), level=False)), ALL[:1])

    def test_no_field(self):
        for name in ["rock", "at", "foot", "Mark", "", "marks", "self", "wanted", "name", "low level", "levels"]:
            self.refused(NoField(name), lambda: list(contacts(three(), **{name: 1})))
            self.refused(NoField(name), lambda: list(contacts(three(), mark="storm", **{name: 1, "top": 2}, level=3)))
            with self.assertRaises(NoField):
                next(iter(contacts(three(), column=99, **{name: 1})))

    def test_beds_of_one_rock_and_great_levels(self):
        section = Section([Column(-GREAT, [("a", GREAT, "x"), ("a", GREAT, "y")], root="a", mark="z")])
        self.same(list(contacts(section)), [
            (0, -GREAT, "a", "a", "z"), (0, 0, "a", "a", "x"), (0, GREAT, "a", None, "y")])

    def test_one_for_each_mark_and_top(self):
        numbers = Numbers(21)
        for round_ in range(60):
            section = some_section(numbers, 1 + round_ % 12)
            found = list(contacts(section))
            self.assertEqual(len(found), sum(len(column) + 1 for column in section.columns))
            self.assertEqual([row[1] for row in found if row[3] is None], list(section.tops))
            self.assertEqual(sorted({row[4] for row in found if row[4]}), list(section.marks))
            self.assertEqual(found, sorted(found, key=lambda row: row[:2]))

    def test_the_section_stays(self):
        section = three()
        list(contacts(section, mark=None))
        self.same(section.text(), THREE)


class CoreTest(Case):

    def test_across_root_beds_and_air(self):
        self.same(core(three(), 0, -3, 9), [
            ("root", None, -3, 0), ("bed", "clay", 0, 4), ("bed", "sand", 4, 6), ("air", None, 6, 9)])
        self.same(core(three(), 1, -3, 9), [("root", "basalt", -3, 3), ("bed", "sand", 3, 4), ("air", None, 4, 9)])
        self.same(core(three(), 2, -6, -4), [("root", None, -6, -5), ("air", None, -5, -4)])
        self.same(core(section=three(), at=0, low=1, high=2), [("bed", "clay", 1, 2)])

    def test_each_low_and_high(self):
        for at, column in enumerate(three().columns):
            cells = {}
            for level in range(-9, 12):
                cells[level] = ("root", column.root) if level < column.foot else ("air", None)
            level = column.foot
            for rock, thickness, _ in column.beds:
                for height in range(level, level + thickness):
                    cells[height] = ("bed", rock)
                level += thickness
            for low in range(-9, 12):
                for high in range(-9, 12):
                    wanted = []
                    for height in range(low, high):
                        if wanted and wanted[-1][:2] == cells[height]:
                            wanted[-1] = cells[height] + (wanted[-1][2], height + 1)
                        else:
                            wanted.append(cells[height] + (height, height + 1))
                    self.same(core(three(), at, low, high), wanted)

    def test_two_beds_of_one_rock(self):
        section = Section([Column(0, [("a", 2, "x"), ("a", 3, None)])])
        self.same(core(section, 0, 0, 5), [("bed", "a", 0, 2), ("bed", "a", 2, 5)])
        self.same(core(section, 0, 1, 3), [("bed", "a", 1, 2), ("bed", "a", 2, 3)])

    def test_great_levels(self):
        section = Section([Column(-GREAT, [("a", 2 * GREAT, None)])])
        self.same(core(section, 0, -2 * GREAT, 2 * GREAT), [
            ("root", None, -2 * GREAT, -GREAT), ("bed", "a", -GREAT, GREAT), ("air", None, GREAT, 2 * GREAT)])
        self.same(core(section, 0, GREAT, -GREAT), [])

    def test_no_column(self):
        for value in any_values() + [-1, 3, 12]:
            if type(value) is not int or not 0 <= value < 3:
                for low, high in [(0, 5), (5, 5), (5, 0)]:
                    self.refused(NoColumn(value), core, three(), value, low, high)

    def test_results_are_new(self):
        section = three()
        core(section, 0, -3, 9).clear()
        self.assertEqual(len(core(section, 0, -3, 9)), 4)
        self.same(section.text(), THREE)


class SpreadTest(Case):

    def test_rocks(self):
        section = Section.read("0 a:4 b:2 a:1\n3#c b:1~x b:2\n-5#a~a")
        self.same(spread(section, "a"), (5, 0, 0))
        self.same(spread(section, "b"), (2, 3, 0))
        self.same(spread(section=section, rock="c"), (0, 0, 0))
        self.same(spread(Section.flat(12), "a"), (0,) * 12)

    def test_any_value(self):
        for value in any_values():
            self.same(spread(three(), value), (4, 0, 0) if value == "clay" else (0, 0, 0))


class TableTest(Case):

    def test_lines(self):
        self.same(table(three()), "\n".join([
            " at    foot     top beds column",
            "  0       0       6    2 0 clay:4 sand:2~storm",
            "  1       3       4    1 3#basalt~gale sand:1",
            "  2      -5      -5    0 -5"]))
        self.same(table(section=Section.flat(1)),
                  " at    foot     top beds column\n  0       0       0    0 0")

    def test_twelve_columns(self):
        lines = table(Section.flat(12)).split("\n")
        self.assertEqual(len(lines), 13)
        for at in range(12):
            self.same(lines[at + 1], ("  " + str(at))[-3:] + "       0       0    0 0")

    def test_numbers_of_their_places_and_wider(self):
        section = Section([Column(12345678, [("a", 1, None)]), Column(-1234567), Column(123456789), Column(-12345678),
                           Column(-GREAT, [("a", 2 * GREAT, None)])])
        self.same(table(section), "\n".join([
            " at    foot     top beds column",
            "  01234567812345679    1 12345678 a:1",
            "  1-1234567-1234567    0 -1234567",
            "  2123456789123456789    0 123456789",
            "  3-12345678-12345678    0 -12345678",
            "  4-" + str(GREAT) + str(GREAT) + "    1 -" + str(GREAT) + " a:" + str(2 * GREAT)]))

    def test_many_beds(self):
        for count, wide in [(9999, " 9999"), (10000, "10000"), (100000, "100000")]:
            column = Column(0, [("ab"[at % 2], 1, None) for at in range(count)])
            line = table(Section([column])).split("\n")[1]
            top = ("       " + str(count))[-8:]
            self.assertTrue(line.startswith("  0       0" + top + wide + " 0 a:1 b:1"), line[:60])


class PictureTest(Case):

    def test_the_document(self):
        self.same(picture(Section.read("0 clay:2\n1#basalt"), -1, 3), ["..", "c.", "c#", "##"])

    def test_each_low_and_high(self):
        whole = ["...", "s..", "s..", "cs.", "c#.", "c#.", "c#.", "##.", "##."]
        for low in range(-2, 8):
            for high in range(-2, 8):
                wanted = [whole[6 - level] for level in reversed(range(low, high))]
                self.same(picture(three(), low, high), wanted)
        self.same(picture(section=three(), low=0, high=1), ["c#."])

    def test_low_at_and_above_high(self):
        for low, high in [(0, 0), (1, 0), (7, -7), (GREAT, -GREAT), (GREAT, GREAT), (-GREAT, -GREAT), (GREAT, 0)]:
            self.same(picture(three(), low, high), [])

    def test_great_levels_near_each_other(self):
        thirty = 123456789012345678901234567890
        section = Section([Column(thirty, [("a", 2, None)]), Column(-thirty, [("b", 2 * thirty + 1, None)]),
                           Column(-thirty), Column(thirty + 1, root="c")])
        self.same(picture(section, thirty - 1, thirty + 3), ["....", "a...", "ab.#", "#b.#"])
        self.same(picture(section, -thirty - 1, -thirty + 1), ["#b.#", "####"])

    def test_like_the_cores(self):
        numbers = Numbers(31)
        letters = {"root": "#", "air": "."}
        for round_ in range(60):
            section = some_section(numbers, 1 + round_ % 12)
            rows = picture(section, -20, 20)
            for row, level in zip(rows, range(19, -21, -1)):
                pieces = [core(section, at, level, level + 1)[0] for at in range(len(section))]
                self.same(row, "".join([letters.get(kind) or rock for kind, rock, _, _ in pieces]))
