"""Histories: sequences of events."""

from rockbeds.errors import InvalidEvent, NoColumn, NoPlace, TooMany, WrongWidth
from rockbeds.events import Cut, Dike, Event, Fault, History, Lay, Lift, Tilt
from rockbeds.sections import Section
from tests.case import GREAT, Case, any_values
from tests.cells import Numbers, some_event, some_section
from tests.test_events import some_events


def some_history():
    return History(Lay("clay", 4), Fault(1, 3), Cut("storm", 5, span=(0, 1)), Tilt(2), Dike("basalt", 0, 2))


class CreatedTest(Case):

    def test_events(self):
        self.same(History().events, ())
        events = some_events()
        history = History(*events)
        self.assertIs(type(history.events), tuple)
        self.equal(history.events, tuple(events))
        self.assertEqual(len(history), len(events))

    def test_no_events(self):
        for value in any_values() + [History(), some_history(), [Lay("clay", 4)], Lay, Event, Section.flat(1),
                                     "lay a 1"]:
            self.refused(InvalidEvent(value), History, value)
            self.refused(InvalidEvent(value), History, Lay("clay", 4), value, None, "later")

    def test_sixty_and_sixty_one(self):
        self.same(History.MOST_EVENTS, 60)
        self.assertEqual(len(History(*[Tilt(1)] * 60)), 60)
        self.refused(TooMany(60), History, *[Tilt(1)] * 61)
        self.refused(TooMany(60), History, *[Tilt(1)] * 99)
        self.refused(InvalidEvent(True), History, *[Tilt(1)] * 61, True, None)

    def test_properties_cannot_be_assigned(self):
        for name in ["events", "order", "lifts", "spans"]:
            self.assertRaises(AttributeError, setattr, some_history(), name, ())

    def test_each_method_stands_in_the_class_itself(self):
        for name in ["MOST_EVENTS", "read", "events", "order", "lifts", "spans", "__len__", "__bool__", "__contains__",
                     "__getitem__", "__eq__", "__add__", "__call__", "walk", "ledger", "text"]:
            self.assertIn(name, vars(History))


class PropertiesTest(Case):

    def test_order(self):
        self.same(some_history().order, (("lay", "clay"), ("cut", "storm"), ("dike", "basalt")))
        self.same(History().order, ())
        self.same(History(Tilt(1), Fault(0, 0), Lift([1])).order, ())
        self.same(History(Cut("a", 1), Lay("a", 1), Dike("a", 0, 1), Lay("a", 2), Cut("a", 1)).order,
                  (("cut", "a"), ("lay", "a"), ("dike", "a"), ("lay", "a"), ("cut", "a")))

    def test_lifts(self):
        self.same(some_history().lifts, 2)
        self.same(History().lifts, 0)
        self.same(History(Tilt(0), Lay("clay", 4), Fault(0, 0), Lift([0]), Lift([0])).lifts, 4)

    def test_spans(self):
        self.same(some_history().spans, {("cut", "storm"): (0, 1)})
        self.same(History().spans, {})
        self.same(History(Lay("a", 1), Cut("a", 1), Dike("a", 0, 1), Tilt(1)).spans, {})
        self.same(History(Lay("b", 1, span=(2, 3)), Cut("b", 1, span=(0, 0)), Lay("a", 1, span=(0, 11))).spans,
                  {("lay", "b"): (2, 3), ("cut", "b"): (0, 0), ("lay", "a"): (0, 11)})

    def test_spans_of_an_item_that_occurs_again(self):
        b, x, a = Lay("b", 1, span=(2, 3)), Cut("x", 1, span=(0, 0)), Lay("a", 1, span=(1, 1))
        bare, again = Lay("b", 9), Lay("b", 2, span=(4, 5))
        wanted = {("lay", "b"): (4, 5), ("cut", "x"): (0, 0), ("lay", "a"): (1, 1)}
        self.same(History(b, x, again, a).spans, wanted)
        self.same(History(b, x, a, again).spans, wanted)
        self.same(History(b, x, a, again, bare).spans, wanted)
        self.same(History(bare, b, x, bare, a, again, bare, bare).spans, wanted)
        self.same(History(bare, x, b).spans, {("cut", "x"): (0, 0), ("lay", "b"): (2, 3)})
        self.same(History(b, bare).spans, {("lay", "b"): (2, 3)})
        self.same(History(again, b).spans, {("lay", "b"): (2, 3)})
        self.same(History(Cut("b", 1), b).spans, {("lay", "b"): (2, 3)})

    def test_a_dict_that_is_changed_has_no_effect(self):
        history = some_history()
        history.spans.clear()
        history.spans[("lay", "clay")] = (0, 0)
        self.same(history.spans, {("cut", "storm"): (0, 1)})
        self.assertIsNot(history.spans, history.spans)

    def test_len_and_truth(self):
        for count in [0, 1, 2, 60]:
            history = History(*[Lay("clay", 4)] * count)
            self.same(len(history), count)
            self.same(bool(history), count > 0)
            self.assertIs(not history, count == 0)

    def test_in(self):
        history = History(Lay("clay", 4), Fault(0, 2), Cut("storm", 5, span=(0, 1)))
        for event in [Lay("clay", 4), Fault(0, 2), Cut("storm", 5, span=(0, 1))]:
            self.assertIs(event in history, True)
            self.assertIs(event not in history, False)
        for value in some_events() + any_values() + [history, "lay clay 4", ("lay", "clay"), Lay, Lift([2, 2])]:
            if not (isinstance(value, Event) and value.text() in ("lay clay 4", "fault 0 2")):
                self.assertIs(value in history, False, value)
            self.assertIs(value in History(), False)

    def test_not_iterated(self):
        self.assertRaises(TypeError, iter, some_history())
        self.assertRaises(TypeError, list, History())

    def test_each_place(self):
        history = some_history()
        for at, event in enumerate(history.events):
            self.equal(history[at], event)
        for value in any_values() + [-1, -5, 5, 6, 60, slice(0, 1), slice(None)]:
            if type(value) is not int or not 0 <= value < 5:
                self.refused(NoPlace(value), lambda at: history[at], value)
        self.refused(NoPlace(0), lambda at: History()[at], 0)

    def test_equality(self):
        self.equal(some_history(), some_history())
        self.equal(History(), History())
        events = list(some_history().events)
        for other in [events[:4], events[::-1], events + [Tilt(0)], events[:3] + [Lift([0, 2])] + events[4:], []]:
            self.unequal(some_history(), History(*other))
        self.unequal(History(Fault(0, 2)), History(Lift([2])))
        self.unequal(History(Lay("a", 1)), History(Lay("a", 1, span=(0, 0))))

    def test_equal_to_no_value_of_another_class(self):
        for value in any_values() + [Lay("clay", 4), (Lay("clay", 4),), [Lay("clay", 4)], "lay clay 4", History]:
            for history in [History(), History(Lay("clay", 4))]:
                self.unequal(history, value)
                self.unequal(value, history)


class SumTest(Case):

    def test_all_four_ways(self):
        a, b, c, d = Lay("clay", 4), Fault(1, 2), Cut("storm", 3), Dike("basalt", 0, 1)
        self.equal(a + b, History(a, b))
        self.equal(a + History(b, c), History(a, b, c))
        self.equal(History(a, b) + c, History(a, b, c))
        self.equal(History(a, b) + History(c, d), History(a, b, c, d))
        self.equal(a + b + c + d, History(a, b, c, d))
        self.equal(a + (b + (c + d)), History(a, b, c, d))
        self.equal((a + b) + (c + d), History(a, b, c, d))

    def test_every_kind_with_every_kind(self):
        for one in some_events():
            for other in some_events():
                self.equal(one + other, History(one, other))
            self.equal(one + History(), History(one))
            self.equal(History() + one, History(one))
        self.equal(History() + History(), History())

    def test_what_is_added_stays(self):
        one, other = History(Tilt(1)), History(Tilt(2))
        self.equal(one + other, History(Tilt(1), Tilt(2)))
        self.equal(one, History(Tilt(1)))
        self.equal(other, History(Tilt(2)))

    def test_sixty_and_sixty_one(self):
        def full(count):
            return History(*[Tilt(1)] * count)

        for count in range(61):
            self.equal(full(count) + full(60 - count), full(60))
            self.refused(TooMany(60), lambda: full(count) + full(min(61 - count, 60)) + Tilt(1))
        self.refused(TooMany(60), lambda: full(60) + full(1))
        self.refused(TooMany(60), lambda: full(1) + full(60))
        self.refused(TooMany(60), lambda: full(60) + Tilt(1))
        for event in some_events():
            self.refused(TooMany(60), lambda: event + full(60))
            self.equal(event + full(59), History(event, *[Tilt(1)] * 59))

    def test_nothing_else_is_added(self):
        for value in any_values():
            for one in [History(), some_history()] + some_events():
                self.assertRaises(TypeError, lambda: one + value)
                self.assertRaises(TypeError, lambda: value + one)


class AppliedTest(Case):

    def test_one_event_after_another(self):
        numbers = Numbers(3)
        for round_ in range(120):
            width = 1 + round_ % 12
            section = some_section(numbers, width)
            history = History(*[some_event(numbers, width) for _ in range(numbers.below(9))])
            sections = [section]
            for event in history.events:
                sections.append(event(sections[-1]))
            before = section.text()
            self.equal(history(section), sections[-1])
            self.equal(history(section=section), sections[-1])
            self.equal(list(history.walk(section)), sections)
            self.equal(list(history.walk(section=section)), sections)
            self.same(section.text(), before)

    def test_ledgers(self):
        numbers = Numbers(4)
        for round_ in range(120):
            width = 1 + round_ % 12
            section = some_section(numbers, width)
            history = History(*[some_event(numbers, width) for _ in range(numbers.below(9))])
            amounts = [after.amounts() for after in history.walk(section)]
            wanted = []
            for old, new in zip(amounts, amounts[1:]):
                changes = {rock: new.get(rock, 0) - old.get(rock, 0) for rock in "abc"}
                wanted.append({rock: by for rock, by in changes.items() if by})
            self.same(history.ledger(section), wanted)
            self.same(history.ledger(section=section), wanted)

    def test_a_ledger_of_each_event(self):
        section = Section.read("0 b:4 a:2\n3 c:1")
        self.same((Lay("d", 6) + Cut("x", 1) + Dike("b", 0, 9) + Tilt(4) + Lay("a", 99)).ledger(section),
                  [{"d": 2}, {"a": -2, "b": -3, "c": -1, "d": -2}, {"b": -1}, {}, {"a": 184}])
        self.same((Lay("z", 5) + Cut("x", 5)).ledger(Section.read("0\n4 a:9\n5")), [{"z": 5}, {"a": -8}])
        self.same(History().ledger(section), [])
        self.same((Lay("a", -GREAT) + Cut("a", GREAT)).ledger(section), [{}, {}])
        self.same(History(Lay("a", GREAT)).ledger(Section.flat(2)), [{"a": 2 * GREAT}])

    def test_ledgers_are_new(self):
        section, history = Section.flat(1), History(Lay("a", 3))
        history.ledger(section)[0].clear()
        history.ledger(section).clear()
        self.same(history.ledger(section), [{"a": 3}])

    def test_the_third_event_cannot_be_applied(self):
        section = Section.flat(2)
        for event, error in [(Dike("a", 2, 0), NoColumn(2)), (Fault(11, 0), NoColumn(11)), (Lift([0]), WrongWidth(2)),
                             (Lay("a", 1, span=(1, 2)), NoColumn(2)), (Cut("a", 1, span=(5, 7)), NoColumn(7))]:
            history = Lay("a", 1) + Tilt(1) + event + Dike("b", 8, 8)
            self.refused(error, history, section)
            self.refused(error, history.ledger, section)
            self.refused(error, lambda: list(history.walk(section)))
            walk = history.walk(section)
            self.equal(next(walk), section)
            self.equal(next(walk), Lay("a", 1)(section))
            self.equal(next(walk), (Lay("a", 1) + Tilt(1))(section))
            self.refused(error, next, walk)
            self.equal(section, Section.flat(2))
            self.refused(error, history, section)

    def test_no_events(self):
        section = Section.read("0 b:4~x")
        self.equal(History()(section), section)
        self.equal(list(History().walk(section)), [section])
