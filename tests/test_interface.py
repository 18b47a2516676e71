"""The interface as a whole: where its names are defined, and how its arguments are passed."""

import importlib
import inspect

from rockbeds import (bounds, columns, contacts, desk, errors, events, faults, orders, readings, sections, still,
                      surveys, swaps, texts)
from rockbeds.columns import Column
from rockbeds.desk import Desk
from rockbeds.events import Cut, Dike, Event, Fault, History, Lay, Lift, Tilt
from rockbeds.readings import Reading
from rockbeds.sections import Section
from rockbeds.surveys import Survey
from tests.case import Case
from tests.samples import A, B, X

NAMES = {
    "errors": "InvalidName InvalidLevel InvalidBeds InvalidColumns InvalidEvent InvalidSpan InvalidOrder InvalidSpans "
              "InvalidLimit WrongWidth Repeated Ringed ParseError NoColumn NoPlace NoField TooMany Stopped "
              "NothingToUndo NothingToRedo",
    "columns": "is_name is_level Column",
    "sections": "Section",
    "events": "Event Lay Cut Dike Lift Fault Tilt History",
    "contacts": "contacts core spread table picture",
    "swaps": "exchangeable parting tidied",
    "orders": "items need_readable fits must_be_earlier name_ring orders order_count order_at order_number "
              "need_fitting",
    "bounds": "surface",
    "still": "still shows_still",
    "readings": "Reading fewest_lifts shows_fewest is_reading best_order",
    "faults": "as_faults summed",
    "surveys": "Survey",
    "texts": "order_text read_order",
    "desk": "Desk",
}
OF_EVENTS = "__init__ __call__ __eq__ __add__ text"
MEMBERS = {
    Column: "__init__ foot beds root mark top __eq__ __len__ __contains__ __getitem__ laid cut_to turned lifted "
            "thickness",
    Section: "__init__ MOST_COLUMNS flat read columns tops rocks marks __eq__ __len__ __contains__ __getitem__ __add__ "
             "part mirrored renamed amounts text",
    Event: "__call__ __add__ text", Lay: OF_EVENTS, Cut: OF_EVENTS, Dike: OF_EVENTS,
    Lift: OF_EVENTS + " on __neg__", Fault: OF_EVENTS + " on __neg__", Tilt: OF_EVENTS + " on __neg__",
    History: "__init__ MOST_EVENTS read events order lifts spans __len__ __bool__ __contains__ __getitem__ __eq__ "
             "__add__ text __call__ walk ledger",
    Reading: "__init__ history runs lifts paper",
    Survey: "__init__ section history moment limit change do batch trial undo redo section_at reading __eq__ __len__",
    Desk: "__init__ say",
}
WEST = Section.read("0 a:4~x\n3 a:2~x b:1")
HISTORY = Lay("a", 4) + Tilt(1) + Cut("x", 3)
SPANS = {B: (0, 1)}


def calls():
    """Each function, class and method: (a maker of it, the arguments by position or name, those only by name)."""
    bed = ("clay", 4, None)
    return [
        (lambda: columns.is_name, {"value": "clay"}, {}),
        (lambda: columns.is_level, {"value": 4}, {}),
        (lambda: Column, {"foot": 3, "beds": [bed]}, {"root": "basalt", "mark": "storm"}),
        (lambda: Column(0, [bed]).laid, {"rock": "sand", "level": 6}, {}),
        (lambda: Column(0, [bed]).cut_to, {"name": "storm", "level": 3}, {}),
        (lambda: Column(0, [bed]).turned, {"rock": "sand", "level": 6}, {}),
        (lambda: Column(0, [bed]).lifted, {"by": 6}, {}),
        (lambda: Column(0, [bed]).thickness, {"rock": "clay"}, {}),
        (lambda: Section, {"columns": [Column(1), Column(2)]}, {}),
        (lambda: Section.flat, {"width": 3}, {}),
        (lambda: Section.read, {"text": "0 a:4\n1"}, {}),
        (lambda: WEST.part, {"first": 1, "last": 1}, {}),
        (lambda: WEST.mirrored, {}, {}),
        (lambda: WEST.renamed, {}, {"a": "c", "b": "d"}),
        (lambda: WEST.amounts, {}, {}),
        (lambda: WEST.text, {}, {}),
        (lambda: Lay, {"rock": "a", "level": 4}, {"span": (0, 1)}),
        (lambda: Cut, {"name": "a", "level": 4}, {"span": (0, 1)}),
        (lambda: Dike, {"rock": "a", "at": 1, "level": 4}, {}),
        (lambda: Lift, {"lifts": [1, 2]}, {}),
        (lambda: Fault, {"at": 1, "throw": 4}, {}),
        (lambda: Tilt, {"slope": 4}, {}),
        (lambda: Lay("a", 4), {"section": WEST}, {}),
        (lambda: Cut("a", 2), {"section": WEST}, {}),
        (lambda: Dike("a", 1, 4), {"section": WEST}, {}),
        (lambda: Lift([1, 2]), {"section": WEST}, {}),
        (lambda: Fault(1, 4), {"section": WEST}, {}),
        (lambda: Tilt(4), {"section": WEST}, {}),
        (lambda: Lift([1, 2]).on, {"width": 2}, {}),
        (lambda: Fault(1, 2).on, {"width": 2}, {}),
        (lambda: Tilt(2).on, {"width": 2}, {}),
        (lambda: Tilt(2).text, {}, {}),
        (lambda: HISTORY, {"section": WEST}, {}),
        (lambda: HISTORY.walk, {"section": WEST}, {}),
        (lambda: HISTORY.ledger, {"section": WEST}, {}),
        (lambda: HISTORY.text, {}, {}),
        (lambda: History.read, {"text": "tilt 1"}, {}),
        (lambda: contacts.contacts, {"section": WEST}, {"mark": "x"}),
        (lambda: contacts.core, {"section": WEST, "at": 1, "low": 2, "high": 9}, {}),
        (lambda: contacts.spread, {"section": WEST, "rock": "a"}, {}),
        (lambda: contacts.table, {"section": WEST}, {}),
        (lambda: contacts.picture, {"section": WEST, "low": 2, "high": 9}, {}),
        (lambda: swaps.exchangeable, {"one": Lay("a", 4), "other": Cut("x", 5)}, {"width": 2}),
        (lambda: swaps.parting, {"one": Lay("a", 4), "other": Cut("x", 4)}, {"width": 2}),
        (lambda: swaps.tidied, {"history": HISTORY}, {"width": 2}),
        (lambda: orders.items, {"section": WEST}, {}),
        (lambda: orders.need_readable, {"section": WEST}, {}),
        (lambda: orders.fits, {"section": WEST, "order": [A, X, B]}, {}),
        (lambda: orders.must_be_earlier, {"section": WEST, "one": A, "other": B}, {}),
        (lambda: orders.name_ring, {"section": WEST}, {}),
        (lambda: orders.orders, {"section": WEST}, {}),
        (lambda: orders.order_count, {"section": WEST}, {}),
        (lambda: orders.order_at, {"section": WEST, "number": 0}, {}),
        (lambda: orders.order_number, {"section": WEST, "order": [A, X, B]}, {}),
        (lambda: orders.need_fitting, {"section": WEST, "order": [A, X, B]}, {}),
        (lambda: bounds.surface, {"section": WEST, "order": [A, X, B], "at": 0, "column": 1}, {"spans": SPANS}),
        (lambda: still.still, {"section": WEST, "order": [A, X, B], "first": 0, "last": 1}, {"spans": SPANS}),
        (lambda: still.shows_still, {"section": WEST, "order": [A, X, B], "first": 3, "last": 3,
                                     "value": ("still", [0, 3], [0])}, {"spans": SPANS}),
        (lambda: Reading, {"section": WEST, "order": [A, X, B]}, {"spans": SPANS}),
        (lambda: readings.fewest_lifts, {"section": WEST, "order": [A, X, B]}, {"spans": SPANS}),
        (lambda: readings.shows_fewest, {"section": WEST, "order": [A, X, B], "lifts": 0, "paper": []},
         {"spans": SPANS}),
        (lambda: readings.is_reading, {"section": WEST, "order": [A, X, B], "history": HISTORY}, {"spans": SPANS}),
        (lambda: readings.best_order, {"section": WEST}, {}),
        (lambda: faults.as_faults, {"lift": Tilt(2)}, {"width": 3}),
        (lambda: faults.summed, {}, {"width": 3}),
        (lambda: Survey, {"width": 3}, {}),
        (lambda: Survey(2).change, {"field": "limit", "value": 7}, {}),
        (lambda: Survey(2).do, {"event": Tilt(1)}, {}),
        (lambda: Survey(2).batch, {}, {}),
        (lambda: Survey(2).trial, {}, {}),
        (lambda: Survey(2).section_at, {"moment": 0}, {}),
        (lambda: Survey(2).reading, {}, {}),
        (lambda: texts.order_text, {"order": [A, X]}, {}),
        (lambda: texts.read_order, {"text": "+a ~x"}, {}),
        (lambda: Desk, {"width": 2}, {}),
        (lambda: Desk(2).say, {"row": "section"}, {}),
    ]


def shown(value):
    """What a result looks like, through and through."""
    if inspect.isgenerator(value):
        return [shown(part) for part in value]
    if isinstance(value, (list, tuple)):
        return type(value)([shown(part) for part in value])
    if isinstance(value, dict):
        return [(shown(key), shown(value[key])) for key in value]
    if isinstance(value, Reading):
        return shown((value.history, value.runs, value.lifts, value.paper))
    if isinstance(value, Column):
        return shown((value.foot, value.beds, value.root, value.mark))
    if isinstance(value, Survey):
        return shown((value.section, value.history, value.moment, value.limit))
    if isinstance(value, Desk):
        return value.say("section")
    if isinstance(value, (Event, Section, History)):
        return (type(value).__name__, value.text())
    return repr(value)


class PlacesTest(Case):

    def test_each_name_is_defined_in_its_file(self):
        for module, names in NAMES.items():
            file = importlib.import_module("rockbeds." + module)
            for name in names.split():
                self.assertEqual(getattr(file, name).__module__, "rockbeds." + module)
                self.assertEqual(getattr(file, name).__name__, name)

    def test_each_method_is_defined_in_its_class(self):
        for kind, names in MEMBERS.items():
            for name in names.split():
                self.assertIn(name, vars(kind), kind)

    def test_class_values(self):
        self.same((Section.MOST_COLUMNS, History.MOST_EVENTS), (12, 60))


class ArgumentsTest(Case):

    def test_by_position_by_name_and_mixed(self):
        for make, arguments, named in calls():
            with self.subTest(call=make(), arguments=list(arguments)):
                wanted = shown(make()(*arguments.values(), **named))
                self.assertEqual(shown(make()(**arguments, **named)), wanted)
                names = list(arguments)
                for count in range(len(names)):
                    first = [arguments[name] for name in names[:count]]
                    rest = {name: arguments[name] for name in names[count:]}
                    self.assertEqual(shown(make()(*first, **named, **rest)), wanted)
                turned = {name: arguments[name] for name in names[::-1]}
                self.assertEqual(shown(make()(**named, **turned)), wanted)

    def test_those_after_a_star_only_by_name(self):
        for make, arguments, named in calls():
            call = make()
            if named and call is not faults.summed:
                with self.subTest(call=call):
                    self.assertRaises(TypeError, call, *arguments.values(), *named.values())
        for call in [faults.summed, faults.as_faults, swaps.tidied]:
            self.assertRaises(TypeError, call, Tilt(1))
        for call in [swaps.exchangeable, swaps.parting]:
            self.assertRaises(TypeError, call, Tilt(1), Tilt(1))
            self.assertRaises(TypeError, call, Tilt(1), Tilt(1), 3)

    def test_none_is_left_out_and_none_is_too_many(self):
        for make, arguments, named in calls():
            call, values = make(), list(arguments.values())
            with self.subTest(call=call):
                if values and call not in (Column, Survey):
                    self.assertRaises(TypeError, call, *values[:-1], **named)
                if call != WEST.renamed and call is not contacts.contacts:
                    self.assertRaises(TypeError, lambda: call(*values, **named, more=1))

    def test_arguments_that_may_be_left_out(self):
        for kind, wanted in [(Column(), Column(0, [])), (Column(0, ()), Column()), (Survey(), Survey(1)),
                             (Column(0, root=None, mark=None), Column()), (Lay("a", 1, span=None), Lay("a", 1)),
                             (Cut("a", 1, span=None), Cut("a", 1)), (History(), History.read(""))]:
            self.equal(kind, wanted)
        for call in [bounds.surface, still.still]:
            self.same(call(WEST, [A, X, B], 0, 1), call(WEST, [A, X, B], 0, 1, spans=None))

    def test_any_number_of_events_lifts_fields_and_names(self):
        self.assertEqual(len(History(Tilt(1), Tilt(2))), 2)
        self.equal(faults.summed(Tilt(1), Tilt(2), width=2), Lift([0, 3]))
        survey = Survey(2)
        survey.batch(Tilt(1), Tilt(2))
        self.assertEqual(len(survey), 2)
        self.equal(survey.trial(Tilt(-3), Tilt(0)), Section.flat(2))
        self.same(list(contacts.contacts(WEST, column=1, mark="x", above="b", below="a", level=5)),
                  [(1, 5, "a", "b", "x")])
        self.equal(WEST.renamed(a="b", b="a", x="y"), Section.read("0 b:4~y\n3 b:2~y a:1"))

    def test_arguments_stay(self):
        for make, arguments, named in calls():
            before = shown((arguments, named))
            first = shown(make()(*arguments.values(), **named))
            self.assertEqual(shown((arguments, named)), before)
            self.assertEqual(shown(make()(*arguments.values(), **named)), first)

    def test_a_tuple_where_a_list_is_expected(self):
        for make, arguments, named in calls():
            given = {name: tuple(value) if isinstance(value, list) else value for name, value in arguments.items()}
            if given != arguments:
                with self.subTest(call=make()):
                    self.assertEqual(shown(make()(**given, **named)), shown(make()(**arguments, **named)))


class ModulesTest(Case):

    def test_all_modules_are_named(self):
        named = [errors, columns, sections, events, contacts, swaps, orders, bounds, still, readings, faults, surveys,
                 texts, desk]
        self.assertEqual(sorted([module.__name__ for module in named]), sorted(["rockbeds." + name for name in NAMES]))
