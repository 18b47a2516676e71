"""Readings: what they play, as few lifts as possible, papers, and what is a reading. [10, 15]"""

from rockbeds.errors import InvalidOrder, InvalidSpans, Repeated, TooMany
from rockbeds.events import Cut, Dike, Fault, History, Lay, Lift, Tilt
from rockbeds.readings import Reading, fewest_lifts, is_reading, shows_fewest
from rockbeds.sections import Section
from rockbeds.still import shows_still, still
from tests.case import GREAT, Case, any_values
from tests.cells import Numbers
from tests.samples import A, B, C, D, R, S, X, Y, bounds_of, chain, comes_round, some_sample, wrong_spans
from tests.test_orders import NO_ORDERS, unreadable


def many(count):
    """An order of so many cuts and lays that left nothing."""
    names = [one + other for one in "abcdefgh" for other in "abcdefgh"]
    return [("lay" if at & 1 else "cut", name) for at, name in enumerate(names[:count])]


class ReadingCase(Case):

    def read(self, section, order, spans=None):
        """The reading, after everything that the document says of it was checked."""
        reading = Reading(section, order, spans=spans)
        self.check_history(section, order, spans, reading.history)
        self.assertEqual(reading.history.lifts, reading.lifts)
        self.assertIs(type(reading.lifts), int)
        self.same(fewest_lifts(section, order, spans=spans), reading.lifts)
        self.check_runs(section, order, spans, reading)
        self.check_paper(section, order, spans, reading)
        return reading

    def check_history(self, section, order, spans, history):
        self.assertIs(type(history), History)
        self.assertEqual(history.order, tuple(order))
        self.assertEqual(history.spans, spans or {})
        self.equal(history(Section.flat(len(section))), section)
        self.same(is_reading(section, order, history, spans=spans), True)
        roots = [column.root for column in section.columns]
        for event in history.events:
            if isinstance(event, Dike):
                self.assertEqual(roots[event.at], event.item[1])

    def check_runs(self, section, order, spans, reading):
        """From the ground to now without gaps, each standing still, none of them with the place behind it."""
        runs = reading.runs
        self.assertIs(type(runs), list)
        self.assertTrue(all([type(run) is tuple for run in runs]))
        self.assertEqual([at for first, last in runs for at in range(first, last + 1)],
                         list(range(-1, len(order) + 1)))
        self.assertEqual(len(runs), reading.lifts + 1)
        for first, last in runs:
            self.assertEqual(still(section, order, first, last, spans=spans)[0], "still")
            if last < len(order):
                self.assertEqual(still(section, order, first, last + 1, spans=spans)[0], "moved")

    def check_paper(self, section, order, spans, reading):
        paper = reading.paper
        rows = bounds_of(section, order, spans)
        self.assertEqual([type(ring) for ring in [paper] + paper], [list] * (1 + reading.lifts))
        end = -1
        for ring in paper:
            places = [at for step in ring for at in (step[0], step[2])]
            self.assertGreaterEqual(min(places), end)
            end = max(places)
            self.assertTrue(comes_round(rows, min(places), max(places), ring))
        self.same(shows_fewest(section, order, len(paper), paper, spans=spans), True)


class ReadingTest(ReadingCase):

    def test_without_items(self):
        reading = self.read(Section.flat(3), [])
        self.equal(reading.history, History())
        self.same((reading.runs, reading.lifts, reading.paper), ([(-1, 0)], 0, []))
        reading = self.read(Section.read("4\n0\n-7"), [])
        self.equal(reading.history, History(Lift([4, 0, -7])))
        self.same((reading.runs, reading.lifts), ([(-1, -1), (0, 0)], 1))

    def test_one_event_between_two_lifts(self):
        reading = self.read(Section.read("5 a:4\n7 a:1"), [A])
        self.assertEqual(reading.lifts, 2)
        self.same(reading.runs, [(-1, -1), (0, 0), (1, 1)])

    def test_exact_histories(self):
        self.equal(self.read(Section.read("0 a:4\n0 a:4"), [A]).history, History(Lay("a", 4)))
        self.equal(self.read(Section.read("3 a:4\n0 a:4"), [A]).history, History(Lay("a", 4), Lift([3, 0])))
        self.equal(self.read(Section.read("0 a:4\n0"), [A], {A: (0, 0)}).history, History(Lay("a", 4, span=(0, 0))))
        self.equal(self.read(Section.read("2#r\n0"), [R]).history, History(Dike("r", 0, 2)))
        self.equal(self.read(Section.read("-2~x\n-2~x"), [X]).history, History(Cut("x", -2)))

    def test_the_history_of_the_document(self):
        history = Lay("clay", 4) + Fault(1, 3) + Cut("storm", 5)
        section = history(Section.flat(2))
        reading = self.read(section, [("lay", "clay"), ("cut", "storm")])
        self.assertEqual(reading.lifts, 1)
        self.same(reading.runs, [(-1, 0), (1, 2)])
        self.equal(reading.history, Lay("clay", 4) + Lift([0, 3]) + Cut("storm", 5))

    def test_any_sample(self):
        """As few lifts as possible: so the known history has no fewer ones."""
        numbers = Numbers(301)
        lifts = []
        for round_ in range(240):
            sample = some_sample(numbers, 1 + round_ % 12, 14)
            reading = self.read(sample.section, sample.order, sample.spans)
            self.assertLessEqual(reading.lifts, sample.known.lifts)
            lifts.append(reading.lifts)
            for value in [None, {}]:
                if sample.spans == {}:
                    self.equal(Reading(sample.section, sample.order, spans=value).history, reading.history)
        self.assertGreater(max(lifts), 2)

    def test_events_without_their_spans(self):
        """The same sections in the same order, but all events act on all columns: more lifts, perhaps."""
        numbers = Numbers(311)
        more = 0
        for _ in range(120):
            sample = some_sample(numbers, numbers.between(2, 6), 10)
            less = self.read(sample.section, sample.order, sample.spans).lifts
            more += self.read(sample.section, sample.order).lifts > less
        self.assertGreater(more, 5)

    def test_long_rings_and_great_levels(self):
        section, order, spans = chain([5, -7, 9, 10 ** 29, 0, 0, -10 ** 29, 1, -8, 3, -3])
        reading = self.read(section, order, spans)
        self.same(reading.runs, [(-1, 20), (21, 21)])
        section, order, spans = chain([5, -7, 9, 10 ** 29, 0, 0, -10 ** 29, 1, -8, 3, -4])
        reading = self.read(section, order, spans)
        self.same(reading.runs, [(-1, 19), (20, 20), (21, 21)])
        self.assertEqual(sorted([column for _, column, _ in reading.paper[0]]), list(range(12)))
        self.read(Section.read(f"{GREAT} a:{GREAT}~x\n{-GREAT} a:{GREAT}\n0#r"), [A, X, R])

    def test_a_lift_between_any_two_places(self):
        section = Section.read("9 a:1 b:1 c:1\n0 a:2 b:3 c:4")
        reading = self.read(section, [A, B, C])
        self.same(reading.runs, [(-1, -1), (0, 0), (1, 1), (2, 2), (3, 3)])
        self.assertEqual(len(reading.history), 7)

    def test_sixty_events_and_more(self):
        flat = Section.flat(2)
        self.assertEqual(len(self.read(flat, many(60)).history), 60)
        raised = Section.read("1\n0")
        self.assertEqual(len(self.read(raised, many(59)).history), 60)
        for section, count in [(flat, 61), (flat, 64), (raised, 60), (raised, 63)]:
            self.refused(TooMany(60), Reading, section, many(count))
            self.refused(TooMany(60), fewest_lifts, section, many(count))
            self.refused(TooMany(60), Reading, section, many(count), spans={many(1)[0]: (0, 1)})
            self.same(shows_fewest(section, many(count), 0, []), True)
            self.same(is_reading(section, many(count), History()), False)
            self.refused(InvalidSpans([]), Reading, section, many(count), spans=[])
            self.refused(InvalidOrder(many(count) * 2), Reading, section, many(count) * 2)

    def test_thirty_lifts(self):
        names = [one + other for one in "abc" for other in "abcdefghij"]
        beds = [" ".join([f"{name}:{by * (at > 0) + 1}" for at, name in enumerate(names)]) for by in [0, 1]]
        section = Section.read("0 " + beds[0] + "\n0 " + beds[1])
        order = [("lay", name) for name in names]
        reading = self.read(section, order)
        self.assertEqual(reading.lifts, 30)
        self.assertEqual(len(reading.history), 60)
        one_more = Section.read("1 " + beds[0] + " x:1\n0 " + beds[1] + " x:1")
        self.refused(TooMany(60), Reading, one_more, order + [("lay", "x")])

    def test_it_depends_on_nothing_else_and_never_changes(self):
        section = Section.read("9 a:1 b:1~x\n0 a:2 b:3")
        order, spans = [A, B, X], {X: (0, 0), A: (0, 1)}
        reading = Reading(section, order, spans=spans)
        history, runs, paper = reading.history, reading.runs, reading.paper
        for other in [Reading(section, tuple(order), spans={A: (0, 1), X: (0, 0)}),
                      Reading(spans=spans, order=order, section=section)]:
            self.equal(other.history, history)
            self.same((other.runs, other.lifts, other.paper), (runs, reading.lifts, paper))
        order.clear()
        spans.clear()
        reading.runs.clear()
        reading.paper[0].clear()
        reading.paper.clear()
        self.equal(reading.history, history)
        self.same((reading.runs, reading.paper), (runs, paper))
        self.equal(Reading(section, [A, B, X], spans=None).history, Reading(section, [A, B, X], spans={}).history)
        for name in ["history", "runs", "lifts", "paper"]:
            self.assertRaises(AttributeError, setattr, reading, name, None)

    def test_refused(self):
        for call in [Reading, fewest_lifts]:
            self.check_refusals(lambda section, order, call=call, **spans: call(section, order, **spans))
        for value in [None, [], History()]:
            self.check_refusals(lambda section, order, value=value, **spans: is_reading(section, order, value, **spans))
            self.check_refusals(lambda section, order, value=value, **spans: shows_fewest(
                section, order, 0, value, **spans))

    def check_refusals(self, call):
        for text, item in unreadable():
            self.refused(Repeated(item), call, Section.read(text), None, spans=0)
        section = Section.read("0\n0 a:1\n0#r")
        for value in any_values() + NO_ORDERS + [[A, R, C, R], [A], [A, R, Y, S], [R, A, R], {A: 0, R: 1}]:
            self.refused(InvalidOrder(value), call, section, value, spans=0)
        for value in any_values() + wrong_spans(section, [X, A, R]):
            if value is not None and value != {}:
                self.refused(InvalidSpans(value), call, section, [X, A, R], spans=value)

    def test_spans_only_by_name(self):
        for call in [Reading, fewest_lifts]:
            self.assertRaises(TypeError, call, Section.flat(1), [], None)
        self.assertRaises(TypeError, shows_fewest, Section.flat(1), [], 0, [], None)
        self.assertRaises(TypeError, is_reading, Section.flat(1), [], History(), None)


class PaperTest(ReadingCase):

    def setUp(self):
        self.section = Section.read("9 a:1 b:1 c:1\n0 a:2 b:3 c:4")
        self.order = [A, B, C]
        self.paper = Reading(self.section, self.order).paper

    def check(self, paper, wanted, lifts="all"):
        count = len(paper) if lifts == "all" else lifts
        self.same(shows_fewest(self.section, self.order, count, paper), wanted)
        self.same(shows_fewest(self.section, self.order, count, paper, spans={A: (0, 1)}), wanted)

    def test_the_paper_itself(self):
        self.assertEqual(len(self.paper), 4)
        self.check(self.paper, True)
        self.check(tuple(self.paper), True)
        self.check([tuple(ring) for ring in self.paper], True)
        self.check(tuple([tuple(ring) for ring in self.paper]), True)
        self.same(shows_fewest(paper=self.paper, lifts=4, order=self.order, section=self.section), True)

    def test_a_ring_left_out_doubled_or_exchanged(self):
        for at in range(4):
            left_out = self.paper[:at] + self.paper[at + 1:]
            self.check(left_out, True)
            self.check(left_out, False, 4)
            self.check(self.paper[:at + 1] + self.paper[at:], False)
            self.check(self.paper[:at + 1] + self.paper[at:], False, 4)
            if at:
                self.check(self.paper[:at - 1] + [self.paper[at], self.paper[at - 1]] + self.paper[at + 1:], False)

    def test_other_numbers_of_lifts_and_other_kinds(self):
        for lifts in [0, 1, 2, 3, 5, -1, GREAT]:
            self.check(self.paper, False, lifts)
        for lifts in any_values():
            if type(lifts) is not int:
                self.check(self.paper, False, lifts)
                self.check(self.paper[:1], False, lifts)
                self.check([], False, lifts)
        self.check(self.paper[:1], True, 1)
        self.check([], True, 0)
        self.check((), True, 0)
        self.check([], False, 1)

    def test_rings_that_overlap(self):
        """By one place, which is allowed, and by more places than one."""
        rows = bounds_of(self.section, self.order, None)
        rings = [[(low, column, high), (high, 1 - column, low)] for low in range(-1, 4) for high in range(low + 1, 4)
                 for column in [0, 1]]
        rings = [ring for ring in rings if comes_round(rows, -1, 3, ring)]
        self.assertGreater(len(rings), 8)
        for ring in rings:
            self.check([ring], True)
            for other in rings:
                self.check([ring, other], max(ring[0][0], ring[0][2]) <= min(other[0][0], other[0][2]))
                for third in rings[::3]:
                    apart = (max(ring[0][0], ring[0][2]) <= min(other[0][0], other[0][2])
                             and max(other[0][0], other[0][2]) <= min(third[0][0], third[0][2]))
                    self.check([ring, other, third], apart)

    def test_a_ring_that_is_none(self):
        for at in range(4):
            for wrong in [[], None, 0, "ring", [None], self.paper[at][:1], self.paper[at][::-1][:1],
                          [list(step) for step in self.paper[at]], [step[::-1] for step in self.paper[at]],
                          {0: self.paper[at]}, self.paper[at] + [(0, 0)], self.paper]:
                self.check(self.paper[:at] + [wrong] + self.paper[at + 1:], False)

    def test_a_ring_from_the_ground_to_now(self):
        section = Section.read("5")
        for order in [[], [A], [A, X, B]]:
            now = len(order)
            self.same(shows_fewest(section, order, 1, [[(now, 0, -1)]]), True)
            self.same(shows_fewest(section, order, 1, [[(-1, 0, now)]]), False)
            self.same(shows_fewest(section, order, 2, [[(now, 0, -1)]] * 2), False)

    def test_any_value(self):
        for value in any_values():
            for section, order in [(self.section, self.order), (Section.flat(1), [])]:
                for lifts in [0, 1, 4]:
                    wanted = lifts == 0 and value in ([], ())
                    self.same(shows_fewest(section, order, lifts, value), wanted)
                    self.same(shows_fewest(section, order, lifts, [value] * lifts), lifts == 0)


class IsReadingTest(ReadingCase):

    def setUp(self):
        self.section = Section.read("2 a:4~x b:1\n0 a:5\n0#r~x")
        self.order = [R, A, X, B]
        self.spans = {X: (0, 2), B: (0, 0)}
        self.reading = self.read(self.section, self.order, self.spans)
        self.events = list(self.reading.history.events)

    def check(self, events, wanted, **spans):
        given = spans or {"spans": self.spans}
        self.same(is_reading(self.section, self.order, History(*events), **given), wanted)
        self.same(is_reading(self.section, tuple(self.order), History(*events), **given), wanted)

    def test_itself(self):
        self.check(self.events, True)
        self.same(is_reading(history=History(*self.events), spans=self.spans, order=self.order, section=self.section),
                  True)

    def test_more_lifts(self):
        for at in range(len(self.events) + 1):
            for more in [[Lift([0, 0, 0])], [Tilt(0)], [Fault(1, 5), Fault(1, -5)]]:
                self.check(self.events[:at] + more + self.events[at:], True)
        self.check(self.events + [Fault(2, 1)], False)
        self.check([Lift([1, 0, 0])] + self.events, False)

    def test_a_lift_split_in_two_or_left_out(self):
        for at, event in enumerate(self.events):
            if isinstance(event, Lift):
                rest = Lift([by - at * 3 for at, by in enumerate(event.on(3))])
                self.check(self.events[:at] + [Tilt(3), rest] + self.events[at + 1:], True)
                self.check(self.events[:at] + [rest] + self.events[at + 1:], False)
                self.check(self.events[:at] + self.events[at + 1:], False)

    def test_other_events(self):
        for at, event in enumerate(self.events):
            if event.item is not None:
                self.check(self.events[:at] + self.events[at + 1:], False)
                self.check(self.events[:at] + [event] + self.events[at:], False)
        self.check(self.events + [Lay("d", -99)], False)
        self.check(self.events + [Cut("d", 99)], False)
        self.check([], False)

    def test_exchanged_events(self):
        """Also such as could change places without another effect: the order is another one."""
        section = Section.read("0 a:3")
        one, other = Lay("a", 3), Cut("x", 9)
        self.same(is_reading(section, [A, X], one + other), True)
        self.same(is_reading(section, [A, X], other + one), False)
        self.same(is_reading(section, [X, A], other + one), True)
        for at in range(len(self.events) - 1):
            if self.events[at].item and self.events[at + 1].item:
                swapped = self.events[:at] + [self.events[at + 1], self.events[at]] + self.events[at + 2:]
                self.check(swapped, False)

    def test_other_spans(self):
        history = History(*self.events)
        for spans in [None, {}, {X: (0, 2)}, {B: (0, 0)}, {X: (0, 2), B: (0, 1)}, {X: (0, 2), B: (0, 0), A: (0, 2)},
                      {X: (0, 2), B: (0, 0), A: (0, 1)}]:
            self.same(is_reading(self.section, self.order, history, spans=spans), False)
        self.same(is_reading(self.section, self.order, history, spans={B: (0, 0), X: (0, 2)}), True)
        section = Section.read("0 a:3\n0 a:3")
        for span, wanted, spans in [(None, True, None), (None, True, {}), (None, False, {A: (0, 1)}),
                                    ((0, 1), False, None), ((0, 1), False, {}), ((0, 1), True, {A: (0, 1)})]:
            self.same(is_reading(section, [A], History(Lay("a", 3, span=span)), spans=spans), wanted)
            cut = Section.read("-3~x\n-3~x")
            given = spans and {X: (0, 1)}
            self.same(is_reading(cut, [X], History(Cut("x", -3, span=span)), spans=given), wanted)

    def test_levels_one_higher_or_lower(self):
        exact = Section.read("0 a:4")
        self.same([is_reading(exact, [A], History(Lay("a", level))) for level in [3, 4, 5]], [False, True, False])
        low = Section.read("0 a:4~x")
        for level in range(2, 7):
            self.same(is_reading(low, [A, X], Lay("a", level) + Cut("x", 4)), level >= 4)
            self.same(is_reading(low, [A, X], Lay("a", 4) + Cut("x", level)), level == 4)
            self.same(is_reading(exact, [A, B], Lay("a", 4) + Lay("b", level)), level <= 4)
            self.same(is_reading(exact, [A, X], Lay("a", 4) + Cut("x", level)), level >= 5)
            self.same(is_reading(low, [A, Y, X], Lay("a", 6) + Cut("y", level) + Cut("x", 4)), level >= 4)

    def test_dikes(self):
        section = Section.read("2#r\n0")
        self.same(is_reading(section, [R], History(Dike("r", 0, 2))), True)
        for event in [Dike("r", 0, 3), Dike("r", 1, 2), Dike("r", 2, 2), Dike("s", 0, 2)]:
            self.same(is_reading(section, [R], History(event)), False)
        both = Section.read("2#r\n2#s")
        self.same(is_reading(both, [R, S], Dike("r", 0, 2) + Dike("s", 1, 2)), True)
        self.same(is_reading(both, [R, S], Dike("r", 1, 2) + Dike("s", 0, 2)), False)

    def test_histories_that_cannot_be_applied(self):
        for wrong in [Lift([0, 0]), Lift([0] * 4), Fault(3, 0), Fault(11, 1)]:
            for at in range(len(self.events) + 1):
                self.check(self.events[:at] + [wrong] + self.events[at:], False)
        section = Section.flat(2)
        self.same(is_reading(section, [A], History(Lay("a", -1, span=(1, 2))), spans={A: (1, 1)}), False)
        self.same(is_reading(Section.read("0#r"), [R], History(Dike("r", 1, 0))), False)

    def test_any_value(self):
        for section, order in [(self.section, self.order), (Section.flat(1), [])]:
            for value in any_values() + [Lay("a", 1), Tilt(0), section, History, [History()]]:
                self.same(is_reading(section, order, value), False)
        self.same(is_reading(Section.flat(1), [], History()), True)
        self.same(is_reading(Section.flat(1), [], History(Tilt(9))), True)
        self.same(is_reading(Section.flat(2), [], History(Tilt(9))), False)

    def test_extra_items_and_order(self):
        self.same(is_reading(Section.flat(1), [A, X], Lay("a", 0) + Cut("x", 1)), True)
        self.same(is_reading(Section.flat(1), [A, X], Lay("a", 0) + Cut("x", 0)), False)
        self.same(is_reading(Section.flat(1), [A, X, D], Lay("a", 0) + Cut("x", 1)), False)
        self.same(is_reading(Section.flat(1), [X], Lay("a", 0) + Cut("x", 1)), False)

    def test_runs_as_shown(self):
        for first, last in self.reading.runs:
            value = still(self.section, self.order, first, last, spans=self.spans)
            self.same(shows_still(self.section, self.order, first, last, value, spans=self.spans), True)
