"""Sections: rows of columns."""

from rockbeds.columns import Column
from rockbeds.errors import InvalidColumns, InvalidName, NoColumn, Repeated, TooMany, WrongWidth
from rockbeds.sections import Section
from tests.case import GREAT, Case, any_values


def some_columns():
    return [
        Column(0, [("clay", 4, None), ("sand", 2, "storm")]),
        Column(3, [("sand", 1, None)], root="basalt", mark="gale"),
        Column(-5, [("clay", 2, "tide"), ("clay", 1, None)], mark="base"),
    ]


def some_section():
    return Section(some_columns())


class CreatedTest(Case):

    def test_columns_as_list_and_as_tuple(self):
        for columns in [some_columns(), tuple(some_columns())]:
            section = Section(columns)
            self.assertIs(type(section.columns), tuple)
            self.equal(section.columns, tuple(some_columns()))
            self.equal(Section(columns=columns), section)

    def test_one_and_twelve(self):
        self.assertEqual(len(Section([Column()])), 1)
        self.assertEqual(len(Section([Column()] * 12)), 12)

    def test_refused(self):
        for value in any_values():
            self.refused(InvalidColumns(value), Section, value)
        for value in [Column(), some_section(), [Column()] * 13, (Column(),) * 13, [Column(), None],
                      [Column(), [Column()]], (Column(), "0"), [some_section()], {0: Column()}, [Column, Column()]]:
            self.refused(InvalidColumns(value), Section, value)

    def test_a_list_that_is_changed_later_has_no_effect(self):
        columns = some_columns()
        section = Section(columns)
        columns.pop()
        columns[0] = Column()
        self.equal(section, some_section())

    def test_most_columns(self):
        self.same(Section.MOST_COLUMNS, 12)

    def test_flat(self):
        for width in [1, 2, 12]:
            self.equal(Section.flat(width), Section([Column()] * width))
        self.equal(Section.flat(width=3), Section.flat(3))

    def test_flat_refused(self):
        for value in [0, 13, -1, GREAT, -GREAT, True, False] + any_values():
            if type(value) is not int or not 1 <= value <= 12:
                self.refused(WrongWidth(value), Section.flat, value)

    def test_properties_cannot_be_assigned(self):
        for name in ["columns", "tops", "rocks", "marks"]:
            self.assertRaises(AttributeError, setattr, some_section(), name, ())

    def test_each_method_stands_in_the_class_itself(self):
        for name in ["MOST_COLUMNS", "flat", "read", "columns", "tops", "rocks", "marks", "part", "mirrored",
                     "renamed", "amounts", "text", "__eq__", "__len__", "__contains__", "__getitem__", "__add__"]:
            self.assertIn(name, vars(Section))


class ReadTest(Case):

    def test_tops(self):
        self.same(some_section().tops, (6, 4, -2))
        self.same(Section([Column(-GREAT, [("clay", 2 * GREAT, None)])]).tops, (GREAT,))

    def test_rocks_and_marks_ascending_and_once(self):
        self.same(some_section().rocks, ("clay", "sand"))
        self.same(some_section().marks, ("base", "gale", "storm", "tide"))
        section = Section([Column(0, [("z", 1, "b"), ("y", 1, "b"), ("z", 1, None)], root="x", mark="c"),
                           Column(0, [("y", 1, "a")], root="x", mark="b")])
        self.same(section.rocks, ("y", "z"))
        self.same(section.marks, ("a", "b", "c"))
        self.same(Section.flat(2).rocks, ())
        self.same(Section.flat(2).marks, ())

    def test_a_root_is_no_rock_of_a_bed(self):
        section = Section([Column(0, root="basalt")])
        self.same(section.rocks, ())
        self.same(section.amounts(), {})
        self.assertIs("basalt" in section, False)

    def test_amounts(self):
        section = some_section()
        self.same(list(section.amounts().items()), [("clay", 7), ("sand", 3)])
        self.same(Section.flat(3).amounts(), {})
        great = Section([Column(0, [("b", GREAT, None)]), Column(0, [("a", 1, None), ("b", GREAT, None)])])
        self.same(list(great.amounts().items()), [("a", 1), ("b", 2 * GREAT)])

    def test_a_dict_that_is_changed_has_no_effect(self):
        section = some_section()
        section.amounts().clear()
        section.amounts()["clay"] = 0
        self.same(section.amounts(), {"clay": 7, "sand": 3})

    def test_items(self):
        section = some_section()
        self.assertEqual(len(section), 3)
        for at, column in enumerate(some_columns()):
            self.equal(section[at], column)

    def test_no_such_column(self):
        for at in [-1, -3, 3, 4, GREAT, True, False, None, "", "0", (0,), slice(0, 1)] + any_values():
            if type(at) is not int or not 0 <= at < 3:
                self.refused(NoColumn(at), lambda index: some_section()[index], at)

    def test_in(self):
        section = some_section()
        self.assertIs("clay" in section, True)
        self.assertIs("sand" in section, True)
        for value in any_values() + ["basalt", "gale", "storm", "chalk"]:
            if value != "clay":
                self.assertIs(value in section, False, value)

    def test_equality(self):
        self.equal(some_section(), some_section())
        columns = some_columns()
        for other in [columns[:2], columns[::-1], columns + [Column()], [Column()] + columns[1:]]:
            self.unequal(some_section(), Section(other))
        self.unequal(Section.flat(1), Section.flat(2))

    def test_equal_to_no_value_of_another_class(self):
        for value in any_values() + [Column(), (Column(),), [Column()], Section]:
            self.unequal(Section.flat(1), value)
            self.unequal(value, Section.flat(1))


class PartsTest(Case):

    def test_sum(self):
        west, east = Section(some_columns()[:1]), Section(some_columns()[1:])
        self.equal(west + east, some_section())
        self.equal(east + west, Section(some_columns()[1:] + some_columns()[:1]))
        self.equal(west, Section(some_columns()[:1]))
        self.equal(east, Section(some_columns()[1:]))

    def test_sum_of_eleven_twelve_and_thirteen(self):
        for west in range(1, 12):
            for together in [11, 12]:
                if west < together:
                    total = Section.flat(west) + Section.flat(together - west)
                    self.equal(total, Section.flat(together))
            self.refused(TooMany(12), lambda: Section.flat(west) + Section.flat(13 - west))
        self.refused(TooMany(12), lambda: Section.flat(12) + Section.flat(12))

    def test_part_with_every_first_and_last(self):
        for first in range(3):
            for last in range(first, 3):
                self.equal(some_section().part(first, last), Section(some_columns()[first:last + 1]))
                self.equal(some_section().part(last=last, first=first), some_section().part(first, last))

    def test_part_in_the_wrong_order(self):
        for first, last in [(1, 0), (2, 0), (2, 1)]:
            self.refused(NoColumn(last), some_section().part, first, last)

    def test_part_beyond_the_ends_and_of_any_kind(self):
        for value in [-1, 3, -3, True, False, GREAT, "0", None] + any_values():
            if type(value) is not int or not 0 <= value < 3:
                self.refused(NoColumn(value), some_section().part, value, 0)
                self.refused(NoColumn(value), some_section().part, value, None)
                for first in range(3):
                    self.refused(NoColumn(value), some_section().part, first, value)

    def test_mirrored_once_and_twice(self):
        section = some_section()
        self.equal(section.mirrored(), Section(some_columns()[::-1]))
        self.equal(section.mirrored().mirrored(), section)
        self.equal(section, some_section())
        self.assertIsNot(Section.flat(1).mirrored(), Section.flat(1))


class RenamedTest(Case):

    def test_rocks_roots_and_marks(self):
        self.equal(some_section().renamed(clay="chalk", basalt="gabbro", storm="flood", base="ground"), Section([
            Column(0, [("chalk", 4, None), ("sand", 2, "flood")]),
            Column(3, [("sand", 1, None)], root="gabbro", mark="gale"),
            Column(-5, [("chalk", 2, "tide"), ("chalk", 1, None)], mark="ground"),
        ]))
        self.equal(some_section(), some_section())

    def test_one_keyword_for_a_rock_a_root_and_a_mark(self):
        section = Section([Column(0, [("a", 1, "a")], root="a", mark="b")])
        self.equal(section.renamed(a="c"), Section([Column(0, [("c", 1, "c")], root="c", mark="b")]))

    def test_names_exchanged_at_once(self):
        self.equal(some_section().renamed(clay="sand", sand="clay", gale="base", base="gale"), Section([
            Column(0, [("sand", 4, None), ("clay", 2, "storm")]),
            Column(3, [("clay", 1, None)], root="basalt", mark="base"),
            Column(-5, [("sand", 2, "tide"), ("sand", 1, None)], mark="gale"),
        ]))

    def test_names_that_do_not_occur_or_stay(self):
        self.equal(some_section().renamed(), some_section())
        self.equal(some_section().renamed(chalk="marl", clay="clay"), some_section())
        self.equal(some_section().renamed(chalk="clay", clay="marl", marl="sand").rocks, ("marl", "sand"))

    def test_any_keyword_but_self(self):
        section = Section([Column(0, [("names", 1, "name"), ("cls", 2, "columns")], root="other", mark="item")])
        renamed = section.renamed(names="a", name="b", cls="c", columns="d", other="e", item="f", section="g")
        self.equal(renamed, Section([Column(0, [("a", 1, "b"), ("c", 2, "d")], root="e", mark="f")]))
        self.equal(section.renamed(**{"": "x", "Names": "y", "no name": "z", "None": "a"}), section)

    def test_values_that_are_no_names(self):
        for value in any_values():
            if value not in ("clay", "clayclay"):
                self.refused(InvalidName(value), some_section().renamed, clay=value)
                self.refused(InvalidName(value), some_section().renamed, nowhere=value)
                self.refused(InvalidName(value), some_section().renamed, clay="sand", nowhere=value, sand=1)
                self.refused(InvalidName(value), some_section().renamed, clay="sand", base=value, basalt=None)

    def test_two_items_that_become_one(self):
        self.refused(Repeated(("lay", "sand")), some_section().renamed, clay="sand")
        self.refused(Repeated(("lay", "marl")), some_section().renamed, clay="marl", sand="marl")
        self.refused(Repeated(("cut", "gale")), some_section().renamed, storm="gale")
        self.refused(Repeated(("cut", "base")), some_section().renamed, clay="sand", storm="tide", gale="base")
        dikes = Section([Column(root="a"), Column(root="b"), Column(0, [("c", 1, None), ("d", 1, None)])])
        self.refused(Repeated(("dike", "b")), dikes.renamed, a="b", c="d")
        self.refused(Repeated(("lay", "d")), dikes.renamed, c="d")
        self.refused(Repeated(("dike", "b")), dikes.renamed, c="d", a="b")

    def test_items_of_two_kinds_may_get_one_name(self):
        section = Section([Column(0, [("a", 1, "b")], root="c")])
        self.equal(section.renamed(a="x", b="x", c="x"), Section([Column(0, [("x", 1, "x")], root="x")]))

    def test_one_item_in_many_places_is_one(self):
        section = Section([Column(0, [("a", 1, "b"), ("a", 1, None)], root="r"), Column(0, [("a", 1, "b")], root="r")])
        self.equal(section.renamed(a="c", b="d", r="s"), Section([
            Column(0, [("c", 1, "d"), ("c", 1, None)], root="s"), Column(0, [("c", 1, "d")], root="s")]))
