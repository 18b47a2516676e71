"""Names, integers and columns."""

from rockbeds.columns import Column, is_level, is_name
from rockbeds.errors import InvalidBeds, InvalidLevel, InvalidName, NoPlace
from tests.case import GREAT, NO_LEVELS, NO_NAMES, Case, any_values
from tests.cells import Cells, Numbers

BEDS = [("clay", 4, None), ("sand", 2, "storm"), ("sand", 1, None), ("clay", 3, None)]


def some_column():
    return Column(-2, BEDS, root="basalt", mark="base")


class NamesTest(Case):

    def test_names(self):
        for value in ["a", "z", "clay", "clayclay", "abcdefgh", "self", "lay"]:
            self.assertIs(is_name(value), True, value)

    def test_no_names(self):
        for value in NO_NAMES + [GREAT]:
            self.assertIs(is_name(value), False, value)

    def test_levels(self):
        for value in [0, 1, -1, 12, GREAT, -GREAT, 10 ** 60 - 1, -(10 ** 60 - 1)]:
            self.assertIs(is_level(value), True, value)

    def test_no_levels(self):
        for value in NO_LEVELS:
            self.assertIs(is_level(value), False, value)

    def test_they_answer_for_any_value(self):
        for value in any_values():
            self.assertIs(is_name(value), value in ("clay", "clayclay") and isinstance(value, str))
            self.assertIs(is_level(value), type(value) is int)


class CreatedTest(Case):

    def test_defaults(self):
        column = Column()
        self.same((column.foot, column.beds, column.root, column.mark, column.top), (0, (), None, None, 0))

    def test_by_position_and_by_name(self):
        column = Column(3, [("clay", 4, None)], root="basalt", mark="storm")
        self.same((column.foot, column.beds, column.root, column.mark, column.top),
                  (3, (("clay", 4, None),), "basalt", "storm", 7))
        self.equal(column, Column(mark="storm", root="basalt", beds=(("clay", 4, None),), foot=3))

    def test_root_and_mark_only_by_name(self):
        self.assertRaises(TypeError, Column, 0, (), "basalt")

    def test_beds_as_list_and_as_tuple(self):
        self.same(Column(0, BEDS).beds, tuple(BEDS))
        self.same(Column(0, tuple(BEDS)).beds, tuple(BEDS))
        self.same(Column(0, []).beds, ())

    def test_a_root_or_a_mark_and_a_bed_may_have_one_name(self):
        column = Column(0, [("clay", 1, "clay")], root="clay", mark="clay")
        self.same(column.beds, (("clay", 1, "clay"),))

    def test_great_numbers(self):
        column = Column(-GREAT, [("clay", GREAT, None), ("sand", GREAT, None)])
        self.assertEqual(column.top, GREAT)

    def test_a_list_that_is_changed_later_has_no_effect(self):
        beds = list(BEDS)
        column = Column(0, beds)
        beds.pop()
        beds[0] = ("chalk", 1, None)
        self.same(column.beds, tuple(BEDS))

    def test_properties_cannot_be_assigned(self):
        for name in ["foot", "beds", "root", "mark", "top"]:
            self.assertRaises(AttributeError, setattr, Column(), name, 1)


class RefusedTest(Case):

    def test_foot(self):
        for value in NO_LEVELS:
            self.refused(InvalidLevel(value), Column, value)
            self.refused(InvalidLevel(value), Column, foot=value, beds=None, root=1, mark=1)

    def test_beds_that_are_no_row(self):
        for value in [None, True, 0, 4, "", "clay", {}, {"clay": 4}]:
            self.refused(InvalidBeds(value), Column, 0, value)
            self.refused(InvalidBeds(value), Column, 0, value, root=1, mark=1)

    def test_beds_that_are_no_beds(self):
        good = ("chalk", 1, None)
        for bed in [["clay", 4, None], ("clay", 4), ("clay", 4, None, None), (), ("clay",), "clay", None, 4, {},
                    ("clay", 0, None), ("clay", -1, None), ("clay", True, None), ("clay", "4", None),
                    ("clay", None, None), ("clay", [4], None), ("Clay", 4, None), ("", 4, None), (None, 4, None),
                    ("clayclayc", 4, None), (["clay"], 4, None), ("clay", 4, ""), ("clay", 4, "Storm"),
                    ("clay", 4, False), ("clay", 4, 1), ("clay", 4, ("storm",)), (None, "clay", 4)]:
            for beds in [[bed], (bed,), [good, bed], [bed, good], (good, bed, good)]:
                self.refused(InvalidBeds(beds), Column, 0, beds)

    def test_a_bed_itself_is_no_row_of_beds(self):
        self.refused(InvalidBeds(("clay", 4, None)), Column, 0, ("clay", 4, None))

    def test_neighbours_of_one_rock_need_a_mark_between_them(self):
        for beds in [[("clay", 4, None), ("clay", 2, None)],
                     [("clay", 4, None), ("clay", 2, "storm")],
                     [("sand", 1, "storm"), ("sand", 1, "gale"), ("clay", 4, None), ("clay", 2, None)]]:
            self.refused(InvalidBeds(beds), Column, 0, beds)
            self.refused(InvalidBeds(tuple(beds)), Column, 0, tuple(beds), root="")
        marked = [("clay", 4, "storm"), ("clay", 2, None)]
        self.same(Column(0, marked).beds, tuple(marked))
        apart = [("clay", 4, None), ("sand", 2, None), ("clay", 4, None)]
        self.same(Column(0, apart).beds, tuple(apart))

    def test_root_then_mark(self):
        for value in NO_NAMES:
            if value is not None:
                self.refused(InvalidName(value), Column, root=value, mark=2)
                self.refused(InvalidName(value), Column, root="basalt", mark=value)
                self.refused(InvalidName(value), Column, 0, (), mark=value)

    def test_any_value(self):
        for value in any_values():
            if type(value) is not int:
                self.refused(InvalidLevel(value), Column, value)
            if value not in ((), [], [("clay", 4, None)], (("clay", 4, None),)):
                self.refused(InvalidBeds(value), Column, 0, value)


class ReadTest(Case):

    def test_items(self):
        column = some_column()
        self.assertEqual(len(column), 4)
        for at, bed in enumerate(BEDS):
            self.same(column[at], bed)

    def test_no_such_bed(self):
        for at in [-1, -4, 4, 5, GREAT, -GREAT] + NO_LEVELS + any_values():
            if type(at) is not int or not 0 <= at < 4:
                self.refused(NoPlace(at), lambda index: some_column()[index], at)
        self.refused(NoPlace(0), lambda: Column()[0])

    def test_len(self):
        self.assertEqual(len(Column(5, root="basalt")), 0)

    def test_in(self):
        column = some_column()
        self.assertIs("clay" in column, True)
        self.assertIs("sand" in column, True)
        for value in any_values() + ["storm", "basalt", "base", "chalk", "cla"]:
            if value != "clay":
                self.assertIs(value in column, False, value)
        self.assertIs("clay" in Column(), False)

    def test_thickness(self):
        column = some_column()
        self.same(column.thickness("clay"), 7)
        self.same(column.thickness("sand"), 3)
        for value in any_values() + ["storm", "basalt", "base"]:
            if value != "clay":
                self.same(column.thickness(value), 0)

    def test_equality(self):
        self.equal(some_column(), some_column())
        for other in [Column(-1, BEDS, root="basalt", mark="base"), Column(-2, BEDS[:3], root="basalt", mark="base"),
                      Column(-2, BEDS, mark="base"), Column(-2, BEDS, root="basalt"),
                      Column(-2, BEDS, root="gabbro", mark="base"), Column(-2, BEDS, root="basalt", mark="storm"),
                      Column(-2, [("clay", 10, None)], root="basalt", mark="base")]:
            self.unequal(some_column(), other)

    def test_equal_to_no_value_of_another_class(self):
        for value in any_values() + [Column, InvalidName("a")]:
            self.unequal(Column(), value)
            self.unequal(value, Column())
        self.unequal(some_column(), tuple(BEDS))


class ExamplesTest(Case):

    def test_the_four_of_the_document(self):
        column = Column(0, [("clay", 4, None)])
        self.same(column.laid("sand", 6).beds, (("clay", 4, None), ("sand", 2, None)))
        self.same(column.laid("clay", 6).beds, (("clay", 6, None),))
        self.same(column.cut_to("storm", 4).beds, (("clay", 4, "storm"),))
        self.same(column.cut_to("storm", -2).mark, "storm")


class ChangedTest(Case):

    def test_laid_below_and_at_the_top_leaves_the_column(self):
        for level in [4, 3, -2, -3, -GREAT]:
            self.equal(Column(0, [("clay", 4, None)]).laid("sand", level), Column(0, [("clay", 4, None)]))
            self.equal(Column(4, mark="base").laid("sand", level), Column(4, mark="base"))

    def test_laid_above_the_top(self):
        self.equal(some_column().laid("sand", 9), Column(-2, BEDS + [("sand", 1, None)], root="basalt", mark="base"))
        self.equal(Column(0).laid("clay", 1), Column(0, [("clay", 1, None)]))
        self.equal(Column(-GREAT).laid("clay", GREAT), Column(-GREAT, [("clay", 2 * GREAT, None)]))

    def test_laid_on_the_same_rock(self):
        self.equal(some_column().laid("clay", 9),
                   Column(-2, BEDS[:3] + [("clay", 4, None)], root="basalt", mark="base"))
        self.equal(Column(0, [("clay", 4, "storm")]).laid("clay", 6),
                   Column(0, [("clay", 4, "storm"), ("clay", 2, None)]))
        self.equal(Column(0, root="clay").laid("clay", 2), Column(0, [("clay", 2, None)], root="clay"))

    def test_cut_above_the_top_leaves_the_column(self):
        for level in [9, 10, GREAT]:
            self.equal(some_column().cut_to("storm", level), some_column())

    def test_cut_at_each_contact_and_beside_it(self):
        def cut(level):
            return some_column().cut_to("new", level)

        def left(*beds):
            return Column(-2, beds, root="basalt", mark="base")

        self.equal(cut(8), left(*BEDS[:3], ("clay", 3, "new")))
        self.equal(cut(7), left(*BEDS[:3], ("clay", 2, "new")))
        self.equal(cut(6), left(*BEDS[:3], ("clay", 1, "new")))
        self.equal(cut(5), left(*BEDS[:2], ("sand", 1, "new")))
        self.equal(cut(4), left(BEDS[0], ("sand", 2, "new")))
        self.equal(cut(3), left(BEDS[0], ("sand", 1, "new")))
        self.equal(cut(2), left(("clay", 4, "new")))
        self.equal(cut(1), left(("clay", 3, "new")))
        self.equal(cut(-1), left(("clay", 1, "new")))

    def test_cut_at_the_foot_and_below_it(self):
        for level in [-2, -3, -GREAT]:
            self.equal(some_column().cut_to("new", level), Column(level, root="basalt", mark="new"))
            self.equal(Column(-2, mark="base").cut_to("new", level), Column(level, mark="new"))
        self.equal(Column().cut_to("new", 0), Column(mark="new"))
        self.equal(Column().cut_to("new", 1), Column())

    def test_cut_by_the_name_that_is_there(self):
        self.equal(Column(0, [("clay", 4, "storm")]).cut_to("storm", 4), Column(0, [("clay", 4, "storm")]))

    def test_cut_of_great_beds(self):
        column = Column(-GREAT, [("clay", GREAT, None), ("sand", GREAT, None)])
        self.equal(column.cut_to("new", 1), Column(-GREAT, [("clay", GREAT, None), ("sand", 1, "new")]))
        self.equal(column.cut_to("new", -1), Column(-GREAT, [("clay", GREAT - 1, "new")]))

    def test_turned(self):
        for level in [-GREAT, -3, -2, 0, 2, 8, 9, GREAT]:
            self.equal(some_column().turned("gabbro", level), Column(level, root="gabbro"))
            self.equal(Column().turned("gabbro", level), Column(level, root="gabbro"))

    def test_lifted(self):
        for by in [-GREAT, -1, 0, 1, GREAT]:
            self.equal(some_column().lifted(by), Column(by - 2, BEDS, root="basalt", mark="base"))

    def test_the_column_itself_stays_and_the_result_is_new(self):
        for name, values in [("laid", ("sand", 20)), ("laid", ("sand", 0)), ("cut_to", ("new", 3)),
                             ("cut_to", ("new", 20)), ("turned", ("gabbro", 1)), ("lifted", (3,)), ("lifted", (0,))]:
            column = some_column()
            self.assertIsNot(getattr(column, name)(*values), column)
            self.equal(column, some_column())
            self.equal(getattr(column, name)(*values), getattr(column, name)(*values))

    def test_arguments_by_name(self):
        column = Column()
        self.equal(column.laid(rock="clay", level=2), column.laid("clay", 2))
        self.equal(column.cut_to(name="storm", level=-1), column.cut_to("storm", -1))
        self.equal(column.turned(rock="basalt", level=2), column.turned("basalt", 2))
        self.equal(column.lifted(by=2), column.lifted(2))
        self.same(column.laid("clay", 2).thickness(rock="clay"), 2)

    def test_a_name_is_refused_before_a_level(self):
        for change in [some_column().laid, some_column().cut_to, some_column().turned]:
            for value in NO_NAMES:
                for level in [0, 20, True, None]:
                    self.refused(InvalidName(value), change, value, level)
            for value in NO_LEVELS:
                self.refused(InvalidLevel(value), change, "storm", value)
        for value in NO_LEVELS:
            self.refused(InvalidLevel(value), some_column().lifted, value)

    def test_each_method_stands_in_the_class_itself(self):
        for name in ["foot", "beds", "root", "mark", "top", "laid", "cut_to", "turned", "lifted", "thickness",
                     "__eq__", "__len__", "__contains__", "__getitem__"]:
            self.assertIn(name, vars(Column))


class CellsTest(Case):

    def test_long_histories_of_a_column(self):
        numbers = Numbers()
        for _ in range(400):
            cells, column = Cells(), Column()
            for _ in range(25):
                name, level, kind = numbers.one_of("abc"), numbers.between(-8, 8), numbers.below(12)
                if kind < 6:
                    cells.lay(name, level)
                    column = column.laid(name, level)
                elif kind < 9:
                    cells.cut(name, level)
                    column = column.cut_to(name, level)
                elif kind < 11:
                    cells.lift(level)
                    column = column.lifted(level)
                else:
                    cells.dike(name, level)
                    column = column.turned(name, level)
                self.equal(column, cells.column())
