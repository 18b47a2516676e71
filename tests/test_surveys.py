"""Surveys: steps, limits, what is taken back and done again."""

from rockbeds.errors import (InvalidEvent, InvalidLimit, InvalidOrder, NoColumn, NoField, NoPlace, NothingToRedo,
                             NothingToUndo, Repeated, Stopped, TooMany, WrongWidth)
from rockbeds.events import Cut, Dike, Fault, History, Lay, Lift, Tilt
from rockbeds.readings import Reading
from rockbeds.sections import Section
from rockbeds.surveys import Survey
from tests.case import GREAT, Case, any_values
from tests.cells import Numbers, some_event
from tests.samples import some_sample

NO_EVENTS = any_values() + [History(), History(Tilt(1)), Section.flat(2), Lay, [Tilt(1)], (Tilt(1),), "tilt 1"]
# What cannot be done in a survey of three columns, and the error that says so.
REFUSED = [(Dike("a", 3, 1), NoColumn(3)), (Fault(3, 1), NoColumn(3)), (Lay("a", 1, span=(1, 4)), NoColumn(4)),
           (Cut("a", 1, span=(5, 5)), NoColumn(5)), (Lift([1, 2]), WrongWidth(3)), (Lift([1] * 12), WrongWidth(3)),
           (None, InvalidEvent(None)), (History(Tilt(1)), InvalidEvent(History(Tilt(1))))]


class SurveyCase(Case):

    def stopped(self, index, error, call, *arguments):
        with self.assertRaises(Stopped) as caught:
            call(*arguments)
        self.assertIs(type(caught.exception), Stopped)
        self.same(caught.exception.index, index)
        self.assertIs(type(caught.exception.error), type(error))
        given, wanted = vars(caught.exception.error), vars(error)
        self.assertEqual(list(given), list(wanted))
        for field in wanted:
            self.assertIs(type(given[field]), type(wanted[field]))
            self.assertEqual(given[field], wanted[field])

    def check(self, survey, section, events, moment, limit=60):
        self.equal(survey.section, section)
        self.equal(survey.history, History(*events))
        self.same((survey.moment, survey.limit, len(survey)), (moment, limit, len(events)))

    def filled(self, *steps, width=3):
        """A survey with these steps, each an event or a list of the events of a batch."""
        survey = Survey(width)
        for step in steps:
            if isinstance(step, list):
                survey.batch(*step)
            else:
                survey.do(step)
        return survey


class NewTest(SurveyCase):

    def test_widths(self):
        for width in range(1, 13):
            self.check(Survey(width), Section.flat(width), [], 0)
            self.check(Survey(width=width), Section.flat(width), [], 0)
        self.check(Survey(), Section.flat(1), [], 0)

    def test_refused(self):
        for value in any_values() + [0, 13, -1, GREAT]:
            if type(value) is not int or not 1 <= value <= 12:
                self.refused(WrongWidth(value), Survey, value)
                self.refused(WrongWidth(value), Survey, width=value)

    def test_properties_are_not_assigned(self):
        survey = self.filled(Tilt(1))
        for name in ["section", "history", "moment"]:
            self.assertRaises(AttributeError, setattr, survey, name, None)
        self.check(survey, Tilt(1)(Section.flat(3)), [Tilt(1)], 1)


class StepTest(SurveyCase):

    def test_do(self):
        survey = Survey(3)
        self.assertIsNone(survey.do(Lay("a", 4)))
        self.check(survey, Section.read("0 a:4\n0 a:4\n0 a:4"), [Lay("a", 4)], 1)
        self.assertIsNone(survey.do(event=Fault(2, 1)))
        self.check(survey, Section.read("0 a:4\n0 a:4\n1 a:4"), [Lay("a", 4), Fault(2, 1)], 2)

    def test_do_refused(self):
        survey = self.filled(Lay("a", 4), Tilt(1))
        survey.undo()
        for value in NO_EVENTS:
            self.refused(InvalidEvent(value), survey.do, value)
        for event, error in REFUSED[:6]:
            self.refused(error, survey.do, event)
        self.check(survey, Lay("a", 4)(Section.flat(3)), [Lay("a", 4)], 1)
        survey.redo()
        self.assertEqual(survey.moment, 2)

    def test_too_many_before_what_the_event_raises(self):
        survey = self.filled(*[Tilt(1)] * 60)
        self.refused(TooMany(60), survey.do, Tilt(1))
        self.refused(TooMany(60), survey.do, Dike("a", 3, 1))
        self.refused(InvalidEvent(None), survey.do, None)
        self.stopped(0, TooMany(60), survey.batch, Lift([1]))
        self.stopped(0, InvalidEvent(7), survey.trial, 7)
        survey.batch()
        self.assertEqual((len(survey), survey.moment), (60, 61))
        short = self.filled(Tilt(1))
        short.limit = 1
        self.refused(TooMany(1), short.do, Tilt(1))
        short.limit = 3
        self.stopped(2, TooMany(3), short.batch, Tilt(1), Tilt(1), Tilt(1))
        self.stopped(2, InvalidEvent("x"), short.batch, Tilt(1), Tilt(1), "x")
        self.stopped(1, NoColumn(3), short.batch, Tilt(1), Fault(3, 1), Tilt(1))
        short.batch(Tilt(1), Tilt(1))
        self.assertEqual((len(short), short.moment), (3, 2))

    def test_batch(self):
        survey = Survey(3)
        self.assertIsNone(survey.batch(Lay("a", 4), Dike("r", 1, 2)))
        self.check(survey, Section.read("0 a:4\n2#r\n0 a:4"), [Lay("a", 4), Dike("r", 1, 2)], 1)
        self.assertIsNone(survey.batch())
        self.check(survey, Section.read("0 a:4\n2#r\n0 a:4"), [Lay("a", 4), Dike("r", 1, 2)], 2)
        survey.undo()
        self.check(survey, Section.read("0 a:4\n2#r\n0 a:4"), [Lay("a", 4), Dike("r", 1, 2)], 1)
        survey.undo()
        self.check(survey, Section.flat(3), [], 0)

    def test_batch_and_trial_refused(self):
        survey = self.filled(Lay("a", 4), Tilt(1))
        survey.undo()
        for event, error in REFUSED:
            for index in range(4):
                events = [Cut("x", 1)] * index + [event, None, Tilt(1)]
                self.stopped(index, error, survey.batch, *events)
                self.stopped(index, error, survey.trial, *events)
                self.check(survey, Lay("a", 4)(Section.flat(3)), [Lay("a", 4)], 1)
        for value in NO_EVENTS:
            self.stopped(1, InvalidEvent(value), survey.batch, Tilt(1), value)
        survey.redo()
        self.assertEqual(survey.moment, 2)

    def test_trial(self):
        survey = self.filled(Lay("a", 4), Tilt(1))
        survey.undo()
        self.equal(survey.trial(), survey.section)
        self.equal(survey.trial(Fault(1, 2), Cut("x", 3)), Section.read("0 a:3~x\n2 a:1~x\n2 a:1~x"))
        self.check(survey, Lay("a", 4)(Section.flat(3)), [Lay("a", 4)], 1)
        survey.redo()
        self.check(survey, (Lay("a", 4) + Tilt(1))(Section.flat(3)), [Lay("a", 4), Tilt(1)], 2)

    def test_undo_and_redo(self):
        survey = Survey(3)
        self.refused(NothingToUndo(), survey.undo)
        self.refused(NothingToRedo(), survey.redo)
        survey.batch(Lay("a", 4), Tilt(1))
        survey.do(Cut("x", 3))
        self.refused(NothingToRedo(), survey.redo)
        self.assertIsNone(survey.undo())
        self.check(survey, (Lay("a", 4) + Tilt(1))(Section.flat(3)), [Lay("a", 4), Tilt(1)], 1)
        self.assertIsNone(survey.undo())
        self.check(survey, Section.flat(3), [], 0)
        self.refused(NothingToUndo(), survey.undo)
        self.assertIsNone(survey.redo())
        self.check(survey, (Lay("a", 4) + Tilt(1))(Section.flat(3)), [Lay("a", 4), Tilt(1)], 1)
        survey.redo()
        self.refused(NothingToRedo(), survey.redo)
        self.check(survey, (Lay("a", 4) + Tilt(1) + Cut("x", 3))(Section.flat(3)),
                   [Lay("a", 4), Tilt(1), Cut("x", 3)], 2)

    def test_a_new_step_clears_what_can_be_redone(self):
        for step in [lambda survey: survey.do(Tilt(2)), lambda survey: survey.batch(Tilt(2)),
                     lambda survey: survey.batch()]:
            survey = self.filled(Tilt(1), Cut("x", 0), Tilt(3))
            survey.undo()
            survey.undo()
            step(survey)
            self.refused(NothingToRedo(), survey.redo)
            self.assertEqual(survey.moment, 2)
            survey.undo()
            survey.redo()
            self.refused(NothingToRedo(), survey.redo)


class LimitTest(SurveyCase):

    def test_from_the_number_of_events_to_60(self):
        survey = self.filled(Tilt(1), [Tilt(1), Tilt(1)])
        for value in [3, 60, 4, 59, 30, 3]:
            survey.limit = value
            self.same(survey.limit, value)
            survey.limit = 60
            self.assertIsNone(survey.change("limit", value))
            self.same(survey.limit, value)
        self.assertIsNone(survey.change(value=5, field="limit"))
        self.same(survey.limit, 5)
        empty = Survey(1)
        empty.limit = 0
        self.refused(TooMany(0), empty.do, Tilt(1))
        empty.batch()
        self.assertEqual(empty.moment, 1)

    def test_refused(self):
        survey = self.filled(Tilt(1), [Tilt(1), Tilt(1)])
        survey.limit = 7
        for value in any_values() + [2, 61, 0, -1, 3.0, "60"]:
            if type(value) is not int or not 3 <= value <= 60:
                self.refused(InvalidLimit(value), survey.change, "limit", value)
                self.refused(InvalidLimit(value), setattr, survey, "limit", value)
                self.same(survey.limit, 7)

    def test_other_fields(self):
        survey = Survey(2)
        for field in any_values() + ["Limit", "limit ", "_limit", "section", "history", "moment", "", ["limit"],
                                     ("limit",), {"limit": 5}]:
            for value in [5, 61, None, True]:
                self.refused(NoField(field), survey.change, field, value)
        self.same(survey.limit, 60)

    def test_redo_when_the_limit_is_too_small(self):
        survey = self.filled(Tilt(1), [Tilt(1), Tilt(1)])
        survey.undo()
        survey.limit = 2
        self.refused(TooMany(2), survey.redo)
        self.check(survey, Tilt(1)(Section.flat(3)), [Tilt(1)], 1, 2)
        survey.limit = 3
        survey.redo()
        self.check(survey, Lift([0, 3, 6])(Section.flat(3)), [Tilt(1)] * 3, 2, 3)
        survey.undo()
        survey.undo()
        survey.limit = 0
        self.refused(TooMany(0), survey.redo)
        survey.limit = 1
        survey.redo()
        self.refused(TooMany(1), survey.redo)

    def test_the_limit_is_no_step(self):
        survey = self.filled(Tilt(1))
        survey.limit = 9
        survey.undo()
        self.check(survey, Section.flat(3), [], 0, 9)
        survey.limit = 8
        survey.redo()
        self.check(survey, Tilt(1)(Section.flat(3)), [Tilt(1)], 1, 8)


class MomentTest(SurveyCase):

    def test_each_moment(self):
        survey = self.filled(Lay("a", 4), [Tilt(1), Cut("x", 3)], [], Dike("r", 0, 9))
        wanted = [Section.flat(3)]
        for events in [[Lay("a", 4)], [Tilt(1), Cut("x", 3)], [], [Dike("r", 0, 9)]]:
            wanted.append(History(*events)(wanted[-1]))
        for moment, section in enumerate(wanted):
            self.equal(survey.section_at(moment), section)
            self.equal(survey.section_at(moment=moment), section)
        survey.undo()
        survey.undo()
        for moment in range(3):
            self.equal(survey.section_at(moment), wanted[moment])
        self.refused(NoPlace(3), survey.section_at, 3)
        survey.redo()
        self.equal(survey.section_at(3), wanted[3])
        self.refused(NoPlace(4), survey.section_at, 4)
        survey.do(Tilt(5))
        self.equal(survey.section_at(4), Tilt(5)(wanted[3]))

    def test_refused(self):
        survey = self.filled(Tilt(1), Tilt(1))
        for value in any_values() + [-1, 3, -3, "1"]:
            if type(value) is not int or not 0 <= value <= 2:
                self.refused(NoPlace(value), survey.section_at, value)


class EqualTest(SurveyCase):

    def test_made_in_unlike_ways(self):
        one = self.filled(Lay("a", 4), Tilt(1))
        two = self.filled([Lay("a", 4), Tilt(1)])
        three = self.filled(Lay("a", 4), Cut("x", 1), width=3)
        three.undo()
        three.batch(Tilt(1))
        three.batch()
        three.limit = 7
        for survey in [one, two, three]:
            for other in [one, two, three]:
                self.equal(survey, other)
        three.undo()
        self.equal(one, three)
        three.undo()
        self.unequal(one, three)

    def test_other_sections_and_histories(self):
        one = self.filled(Lay("a", 4), Tilt(1))
        for other in [self.filled(Lay("a", 4)), self.filled(Lay("a", 4), Lift([0, 1, 2])),
                      self.filled(Lay("a", 4), Tilt(1), Tilt(0)), self.filled(Lay("a", 4), Tilt(1), width=2),
                      self.filled(Lay("a", 4), Tilt(2)), Survey(3)]:
            self.unequal(one, other)
        self.unequal(Survey(2), Survey(3))
        self.equal(Survey(), Survey(1))

    def test_any_value(self):
        survey = Survey(1)
        for value in any_values() + [survey.section, survey.history, Tilt(1)]:
            self.unequal(survey, value)
            self.unequal(value, survey)


class ReadingTest(SurveyCase):

    def test_with_spans(self):
        survey = self.filled(Lay("a", 4, span=(0, 1)), Fault(1, 3), [Cut("x", 5), Dike("r", 2, 1)], Tilt(0))
        before = (survey.section.text(), survey.history.text())
        reading = survey.reading()
        self.assertIs(type(reading), Reading)
        wanted = Reading(survey.section, survey.history.order, spans=survey.history.spans)
        self.equal(reading.history, wanted.history)
        self.same((reading.runs, reading.lifts, reading.paper), (wanted.runs, wanted.lifts, wanted.paper))
        self.same((survey.section.text(), survey.history.text(), survey.moment), before + (4,))
        self.equal(reading.history(Section.flat(3)), survey.section)
        self.assertEqual(reading.history.spans, {("lay", "a"): (0, 1)})

    def test_at_first(self):
        reading = Survey(4).reading()
        self.equal(reading.history, History())
        self.assertEqual(reading.lifts, 0)

    def test_any_survey(self):
        numbers = Numbers(531)
        for _ in range(60):
            sample = some_sample(numbers, numbers.between(1, 12), 12)
            survey = self.filled(list(sample.known.events), width=sample.width)
            reading = survey.reading()
            self.assertLessEqual(reading.lifts, sample.known.lifts)
            self.equal(reading.history(Section.flat(sample.width)), survey.section)

    def test_repeated(self):
        for events, item in [([Lay("a", 1), Lay("a", 2)], ("lay", "a")),
                             ([Lay("b", 1), Lay("a", 1), Cut("x", 1), Cut("x", 0), Lay("b", 1)], ("cut", "x")),
                             ([Dike("r", 0, 1), Dike("r", 0, 2)], ("dike", "r")),
                             ([Dike("r", 0, 1), Dike("r", 1, 2)], ("dike", "r")),
                             ([Dike("r", 0, 1), Dike("s", 0, 1), Lay("b", 4), Lay("a", 5), Lay("b", 6), Lay("a", 9)],
                              ("lay", "b"))]:
            survey = self.filled(*events)
            self.refused(Repeated(item), survey.reading)
            self.equal(survey.history, History(*events))

    def test_a_destroyed_dike(self):
        survey = self.filled(Dike("r", 0, 1), Lay("a", 3), Dike("s", 0, 2))
        self.refused(InvalidOrder((("dike", "r"), ("lay", "a"), ("dike", "s"))), survey.reading)

    def test_after_steps_were_taken_back(self):
        survey = self.filled(Lay("a", 1), Lay("a", 2))
        self.refused(Repeated(("lay", "a")), survey.reading)
        survey.undo()
        self.equal(survey.reading().history, History(Lay("a", 1)))

    def test_sixty_events(self):
        names = [one + other for one in "abcdefgh" for other in "abcdefgh"]
        survey = self.filled([Cut(name, 1) for name in names[:58]], Tilt(1), Tilt(1))
        self.assertEqual(survey.reading().lifts, 1)
        self.assertEqual(len(survey.reading().history), 59)


class Plain:
    """A survey as a list of its steps: another way to the same results."""

    def __init__(self, width):
        self.width, self.steps, self.undone, self.limit = width, [], [], 60

    def events(self):
        return [event for step in self.steps for event in step]

    def section(self, moment):
        return History(*[event for step in self.steps[:moment] for event in step])(Section.flat(self.width))


class DrawnTest(SurveyCase):

    def step(self, numbers, survey, plain):
        """Do anything with both."""
        kind = numbers.below(10)
        events = [self.some_step(numbers, plain.width) for _ in range(numbers.below(4))]
        count = len(plain.events())
        if kind < 4:
            self.one_step(survey, plain, events[:1] or [Tilt(0)], survey.do, False)
        elif kind < 6:
            self.one_step(survey, plain, events, survey.batch, True)
        elif kind == 6 and plain.steps:
            survey.undo()
            plain.undone.append(plain.steps.pop())
        elif kind < 9:
            self.redo(survey, plain)
        else:
            value = numbers.between(0, 62) if numbers.below(2) else count + numbers.between(-1, 3)
            if count <= value <= 60:
                survey.limit = plain.limit = value
            else:
                self.refused(InvalidLimit(value), survey.change, "limit", value)

    def some_step(self, numbers, width):
        return numbers.one_of([some_event(numbers, width)] * 5 + [Dike("a", 11, 1), None])

    def one_step(self, survey, plain, events, call, whole):
        """A do or a batch, after a trial of the same."""
        count = len(plain.events())
        wrong = None
        for index, event in enumerate(events):
            if event is None:
                wrong = (index, InvalidEvent(None))
            elif count + index >= plain.limit:
                wrong = (index, TooMany(plain.limit))
            elif isinstance(event, Dike) and event.at >= plain.width:
                wrong = (index, NoColumn(event.at))
            if wrong is not None:
                break
        if wrong is None:
            section = survey.trial(*events)
            call(*events)
            self.equal(section, survey.section)
            plain.steps.append(events)
            plain.undone.clear()
        else:
            self.stopped(*wrong, survey.trial, *events)
            if whole:
                self.stopped(*wrong, call, *events)
            else:
                self.refused(wrong[1], call, *events)

    def redo(self, survey, plain):
        if not plain.undone:
            self.refused(NothingToRedo(), survey.redo)
        elif len(plain.events()) + len(plain.undone[-1]) > plain.limit:
            self.refused(TooMany(plain.limit), survey.redo)
        else:
            survey.redo()
            plain.steps.append(plain.undone.pop())

    def test_beside_a_plain_list_of_steps(self):
        numbers = Numbers(541)
        for width in range(1, 12):
            survey, plain = Survey(width), Plain(width)
            for _ in range(60):
                self.step(numbers, survey, plain)
                self.check(survey, plain.section(len(plain.steps)), plain.events(), len(plain.steps), plain.limit)
                moment = numbers.below(len(plain.steps) + 1)
                self.equal(survey.section_at(moment), plain.section(moment))
                self.refused(NoPlace(len(plain.steps) + 1), survey.section_at, len(plain.steps) + 1)
