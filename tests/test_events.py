"""Events as values: what they are made of, and what is refused."""

from rockbeds.errors import InvalidLevel, InvalidName, InvalidSpan, NoColumn, WrongWidth
from rockbeds.events import Cut, Dike, Event, Fault, Lay, Lift, Tilt
from rockbeds.sections import Section
from tests.case import GREAT, NO_LEVELS, NO_NAMES, Case, any_values

NO_SPANS = [
    [0, 1], [1, 1], (1, 0), (11, 10), (0, 12), (12, 12), (-1, 0), (-1, -1), (0, 1, 2), (0,), (), (True, True),
    (0, True), (False, 1), (None, None), (0, None), ((0, 1),), ("0", "1"), "01", 0, 1, True, False, {0: 1}, {}, [],
    (0, [1]), (0, GREAT), (-GREAT, 0), ([0], [1]),
]
NO_COLUMNS = [-1, 12, 13, GREAT, -GREAT] + NO_LEVELS


def some_events():
    """Events of all kinds, no two of them equal."""
    return [
        Lay("clay", 4), Lay("sand", 4), Lay("clay", 5), Lay("clay", 4, span=(0, 1)), Lay("clay", 4, span=(0, 2)),
        Lay("clay", 4, span=(1, 2)), Cut("clay", 4), Cut("storm", 4), Cut("clay", 5), Cut("clay", 4, span=(0, 1)),
        Cut("clay", 4, span=(0, 2)), Cut("clay", 4, span=(1, 2)), Dike("clay", 0, 4), Dike("basalt", 0, 4),
        Dike("clay", 1, 4), Dike("clay", 0, 5), Lift([0, 0, 0]), Lift([0, 2, 2]), Lift([0, 2, 4]), Lift([0, 2]),
        Lift([2]), Lift([0]), Lift([1]), Fault(1, 2), Fault(0, 2), Fault(2, 2), Fault(1, -2), Fault(1, 0), Tilt(2),
        Tilt(0), Tilt(1), Tilt(-2),
    ]


class AttributesTest(Case):

    def test_lay_and_cut(self):
        for kind, word in [(Lay, "lay"), (Cut, "cut")]:
            event = kind("clay", 4)
            self.same((event.item, event.level, event.span), ((word, "clay"), 4, None))
            for span in [(0, 0), (0, 11), (11, 11), (3, 7)]:
                event = kind("a", -GREAT, span=span)
                self.same((event.item, event.level, event.span), ((word, "a"), -GREAT, span))
            self.equal(kind("clay", 4, span=None), kind("clay", 4))
        self.equal(Lay(rock="clay", level=4, span=(0, 1)), Lay("clay", 4, span=(0, 1)))
        self.equal(Cut(name="storm", level=4, span=(0, 1)), Cut("storm", 4, span=(0, 1)))

    def test_span_only_by_name(self):
        self.assertRaises(TypeError, Lay, "clay", 4, (0, 1))
        self.assertRaises(TypeError, Cut, "clay", 4, (0, 1))

    def test_dike(self):
        for at in [0, 5, 11]:
            event = Dike("basalt", at, GREAT)
            self.same((event.item, event.at, event.level), (("dike", "basalt"), at, GREAT))
        self.equal(Dike(level=3, at=2, rock="a"), Dike("a", 2, 3))

    def test_lift(self):
        for lifts in [[0], [1, -2, GREAT], [0] * 12]:
            for given in [lifts, tuple(lifts)]:
                event = Lift(given)
                self.same((event.item, event.lifts), (None, tuple(lifts)))
        self.equal(Lift(lifts=[1, 2]), Lift([1, 2]))
        self.equal(Lift((1, 2)), Lift([1, 2]))

    def test_fault_and_tilt(self):
        for at in [0, 5, 11]:
            event = Fault(at, -GREAT)
            self.same((event.item, event.at, event.throw), (None, at, -GREAT))
        event = Tilt(GREAT)
        self.same((event.item, event.slope), (None, GREAT))
        self.equal(Fault(throw=3, at=2), Fault(2, 3))
        self.equal(Tilt(slope=3), Tilt(3))

    def test_classes(self):
        for event in some_events():
            self.assertIsInstance(event, Event)
        self.assertEqual([kind.__bases__ for kind in (Lay, Cut, Dike, Lift)], [(Event,)] * 4)
        self.assertEqual([kind.__bases__ for kind in (Fault, Tilt)], [(Lift,)] * 2)

    def test_a_list_that_is_changed_later_has_no_effect(self):
        lifts = [1, 2, 3]
        event = Lift(lifts)
        lifts[0] = 9
        lifts.pop()
        self.equal(event, Lift([1, 2, 3]))
        self.same(event.lifts, (1, 2, 3))
        self.same(event.on(3), (1, 2, 3))

    def test_each_method_stands_in_the_class_itself(self):
        for kind in [Event, Lay, Cut, Dike, Lift, Fault, Tilt]:
            for name in ["__call__", "__add__", "text"] + ["__eq__"] * (kind is not Event):
                self.assertIn(name, vars(kind))
            self.assertEqual(kind.__module__, "rockbeds.events")
        for kind in [Lift, Fault, Tilt]:
            for name in ["on", "__neg__"]:
                self.assertIn(name, vars(kind))


class RefusedTest(Case):

    def test_names_then_levels_then_spans(self):
        for kind in [Lay, Cut]:
            for value in NO_NAMES:
                self.refused(InvalidName(value), kind, value, 4)
                self.refused(InvalidName(value), kind, value, None, span=[0, 1])
            for value in NO_LEVELS:
                self.refused(InvalidLevel(value), kind, "clay", value)
                self.refused(InvalidLevel(value), kind, "clay", value, span=(1, 0))
            for value in NO_SPANS:
                self.refused(InvalidSpan(value), kind, "clay", 4, span=value)

    def test_any_value_as_span(self):
        for value in any_values():
            if value is not None:
                self.refused(InvalidSpan(value), Lay, "clay", 4, span=value)
                self.refused(InvalidSpan(value), Cut, "clay", 4, span=value)

    def test_dike(self):
        for value in NO_NAMES:
            self.refused(InvalidName(value), Dike, value, 12, None)
        for value in NO_COLUMNS:
            self.refused(NoColumn(value), Dike, "clay", value, None)
            self.refused(NoColumn(value), Dike, "clay", value, 4)
        for value in NO_LEVELS:
            self.refused(InvalidLevel(value), Dike, "clay", 11, value)

    def test_fault_and_tilt(self):
        for value in NO_COLUMNS:
            self.refused(NoColumn(value), Fault, value, 4)
            self.refused(NoColumn(value), Fault, value, None)
        for value in NO_LEVELS:
            self.refused(InvalidLevel(value), Fault, 0, value)
            self.refused(InvalidLevel(value), Tilt, value)

    def test_lift(self):
        for value in any_values():
            if not isinstance(value, (list, tuple)):
                self.refused(InvalidLevel(value), Lift, value)
        for count in [0, 13, 14, 30]:
            for part in [0, None]:
                self.refused(WrongWidth(count), Lift, [part] * count)
                self.refused(WrongWidth(count), Lift, (part,) * count)
        for value in NO_LEVELS:
            for at in range(12):
                lifts = [0] * at + [value] + ["later"] * (11 - at)
                self.refused(InvalidLevel(value), Lift, lifts)
                self.refused(InvalidLevel(value), Lift, tuple(lifts))

    def test_any_value_as_name_column_and_level(self):
        for value in any_values():
            if value not in ("clay", "clayclay"):
                self.refused(InvalidName(value), Lay, value, 0)
                self.refused(InvalidName(value), Cut, value, 0)
                self.refused(InvalidName(value), Dike, value, 0, 0)
            if type(value) is not int:
                self.refused(InvalidLevel(value), Lay, "a", value)
                self.refused(InvalidLevel(value), Cut, "a", value)
                self.refused(InvalidLevel(value), Dike, "a", 0, value)
                self.refused(InvalidLevel(value), Fault, 0, value)
                self.refused(InvalidLevel(value), Tilt, value)
            if type(value) is not int or not 0 <= value <= 11:
                self.refused(NoColumn(value), Dike, "a", value, 0)
                self.refused(NoColumn(value), Fault, value, 0)

    def test_an_error_keeps_the_value_that_was_passed(self):
        span = [0, 1]
        with self.assertRaises(InvalidSpan) as caught:
            Lay("clay", 4, span=span)
        span.clear()
        self.same(caught.exception.value, [0, 1])


class EqualityTest(Case):

    def test_each_to_its_like_alone(self):
        for at, event in enumerate(some_events()):
            for other_at, other in enumerate(some_events()):
                if at == other_at:
                    self.equal(event, other)
                else:
                    self.unequal(event, other)

    def test_a_lift_is_unlike_a_fault_and_a_tilt_with_its_numbers(self):
        for lift in [Fault(0, 2), Fault(2, 2), Fault(1, 0), Tilt(2), Tilt(0)]:
            numbers = Lift(lift.on(3))
            self.unequal(lift, numbers)
            self.unequal(numbers, lift)
        self.assertIs(Lift([2, 2]).__eq__(Fault(0, 2)), False)
        self.assertIs(Lift([0, 2]).__eq__(Tilt(2)), False)
        self.unequal(Fault(1, 0), Tilt(0))
        self.unequal(Fault(0, 0), Fault(1, 0))
        self.unequal(Fault(1, 3), Tilt(3))

    def test_equal_to_no_value_of_another_class(self):
        for event in some_events():
            for value in any_values() + [event.text(), event.item, Section.flat(3), type(event), Event, (event,)]:
                self.unequal(event, value)
                self.unequal(value, event)

    def test_events_as_members_of_lists(self):
        for event in some_events():
            self.assertEqual(some_events().count(event), 1)
            self.assertIs((event in [event.text(), None, Section.flat(1)]), False)


class LiftTest(Case):

    def test_on(self):
        self.same(Lift([3, 0, -2]).on(3), (3, 0, -2))
        self.same(Fault(0, 4).on(3), (4, 4, 4))
        self.same(Fault(1, 4).on(3), (0, 4, 4))
        self.same(Fault(2, -GREAT).on(3), (0, 0, -GREAT))
        self.same(Fault(11, 4).on(12), (0,) * 11 + (4,))
        self.same(Tilt(3).on(1), (0,))
        self.same(Tilt(-3).on(4), (0, -3, -6, -9))
        self.same(Tilt(GREAT).on(12)[11], 11 * GREAT)
        self.same(Tilt(3).on(width=2), (0, 3))

    def test_on_a_width_that_does_not_fit(self):
        for width in range(1, 13):
            for count in range(1, 13):
                if width == count:
                    self.same(Lift([7] * count).on(width), (7,) * count)
                else:
                    self.refused(WrongWidth(width), Lift([7] * count).on, width)
            for at in range(12):
                if at < width:
                    self.same(Fault(at, 7).on(width), (0,) * at + (7,) * (width - at))
                else:
                    self.refused(NoColumn(at), Fault(at, 7).on, width)

    def test_on_any_value(self):
        for lift in [Lift([1, 2]), Lift([1]), Fault(0, 3), Fault(11, 3), Tilt(3)]:
            for value in any_values() + [0, 13, 14]:
                if type(value) is not int or not 1 <= value <= 12:
                    self.refused(WrongWidth(value), lift.on, value)

    def test_taken_back(self):
        self.equal(-Lift([3, 0, -2]), Lift([-3, 0, 2]))
        self.equal(-Fault(3, 4), Fault(3, -4))
        self.equal(-Fault(3, 0), Fault(3, 0))
        self.equal(-Tilt(-5), Tilt(5))
        for lift in [Lift([3, 0, -GREAT]), Lift([0]), Fault(2, GREAT), Tilt(-GREAT), Tilt(0), Fault(0, -1)]:
            self.assertIs(type(-lift), type(lift))
            self.equal(-(-lift), lift)
        for lift in [Lift([3, 0, -2]), Fault(2, 4), Fault(0, -4), Tilt(-3)]:
            section = Section.read("0 clay:4\n3#basalt~storm sand:2~gale\n-5")
            self.equal((-lift)(lift(section)), section)
            self.same((-lift).on(3), tuple(-by for by in lift.on(3)))
            self.equal(lift, -(-lift))

    def test_other_events_are_not_taken_back(self):
        for event in [Lay("clay", 4), Cut("storm", 4), Dike("basalt", 0, 4)]:
            self.assertRaises(TypeError, lambda: -event)
            self.assertFalse(hasattr(event, "on"))
