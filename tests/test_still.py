"""Runs that can stand still and rings that show that they cannot. [13, 14]"""

from rockbeds.errors import InvalidOrder, InvalidSpans, NoPlace, Repeated
from rockbeds.sections import Section
from rockbeds.still import shows_still, still
from tests.case import GREAT, Case, any_values
from tests.cells import Numbers
from tests.samples import A, B, C, R, X, Y, bounds_of, chain, comes_round, some_sample, stands, wrong_spans
from tests.test_orders import NO_ORDERS, unreadable


class StillCase(Case):

    def answer(self, section, order, first, last, spans=None):
        """What still says, which must be of the stated kinds and be shown by the surfaces alone."""
        rows = bounds_of(section, order, spans)
        value = still(section, order, first, last, spans=spans)
        self.assertIs(type(value), tuple)
        self.assertTrue(all([type(part) is list for part in value[1:]]))
        if value[0] == "still":
            _, feet, levels = value
            self.assertTrue(all([type(number) is int for number in feet + levels]))
            self.assertTrue(stands(rows, first, last, feet, levels), (first, last, value))
        else:
            word, ring = value
            self.assertEqual(word, "moved")
            self.assertTrue(ring)
            self.assertTrue(all([type(step) is tuple and [type(part) for part in step] == [int] * 3 for step in ring]))
            self.assertTrue(comes_round(rows, first, last, ring), (first, last, value))
        self.same(still(section, tuple(order), first, last, spans=spans), value)
        self.same(shows_still(section, order, first, last, value, spans=spans), True)
        return value

    def shows(self, section, order, run, value, spans=None):
        return shows_still(section, order, run[0], run[1], value, spans=spans)


class AnswerTest(StillCase):

    def test_without_items(self):
        for text, word in [("0", "still"), ("0\n0\n0", "still"), ("1", "moved"), ("-1", "moved"),
                           ("0\n0\n-4", "moved")]:
            section = Section.read(text)
            self.same(self.answer(section, [], -1, 0)[0], word)
            self.same(self.answer(section, [], -1, -1)[0], "still")
            self.same(self.answer(section, [], 0, 0)[0], "still")

    def test_feet_and_levels_that_are_exact(self):
        section = Section.read("0 a:4\n3 a:2~x")
        order = [A, X]
        self.same(self.answer(section, order, -1, 0), ("still", [0, 0], [0, 4]))
        self.same(self.answer(section, order, 2, 2), ("still", [0, 3], [0]))
        self.same(self.answer(section, order, 1, 2), ("still", [0, 3], [5, 0]))
        self.same(self.answer(section, order, -1, 2)[0], "moved")
        self.same(still(first=-1, order=order, last=0, section=section, spans={}), ("still", [0, 0], [0, 4]))

    def test_each_single_place_stands_still(self):
        numbers = Numbers(201)
        for _ in range(60):
            sample = some_sample(numbers, numbers.between(1, 12), 12)
            for at in range(-1, sample.now + 1):
                self.same(self.answer(sample.section, sample.order, at, at, sample.spans)[0], "still")

    def test_the_ground_and_now(self):
        for text, order in [("5 a:2", [A]), ("-5 a:2", [A]), ("0 a:2\n7 a:2", [A])]:
            section = Section.read(text)
            self.same(self.answer(section, order, -1, 0)[0], "still")
            self.same(self.answer(section, order, 0, 1)[0], "still" if len(section) == 1 else "moved")
            self.same(self.answer(section, order, -1, 1)[0], "moved")

    def test_unbounded_places(self):
        section = Section.read("5#r")
        self.same(self.answer(section, [A, X, R], -1, 1)[0], "still")
        self.same(self.answer(section, [A, X, R], -1, 3)[0], "still")
        self.same(self.answer(Section.read("5#r\n0"), [A, X, R], -1, 3), ("still", [5, 0], [0, 0, 1, 5, 0]))
        self.same(self.answer(Section.read("-9~x"), [A, X], -1, 2)[0], "still")
        self.same(self.answer(Section.read("9~x"), [A, X], -1, 2)[0], "moved")

    def test_each_run_is_one_or_the_other(self):
        """Also for its parts: a run that stands still has no run inside of it that does not. [15]"""
        numbers = Numbers(211)
        words = []
        for round_ in range(72):
            sample = some_sample(numbers, 1 + round_ % 12, 7)
            now = sample.now
            found = {(first, last): self.answer(sample.section, sample.order, first, last, sample.spans)[0]
                     for first in range(-1, now + 1) for last in range(first, now + 1)}
            for first, last in found:
                if found[first, last] == "still":
                    self.assertTrue(all([found[run] == "still" for run in found if first <= run[0] <= run[1] <= last]))
            words += list(found.values())
        self.assertGreater(words.count("still"), 500)
        self.assertGreater(words.count("moved"), 50)

    def test_histories_without_lifts_stand_still(self):
        numbers = Numbers(221)
        found = 0
        while found < 60:
            sample = some_sample(numbers, numbers.between(1, 6), 6)
            if sample.known.lifts == 0:
                found += 1
                self.same(self.answer(sample.section, sample.order, -1, sample.now, sample.spans)[0], "still")

    def test_long_rings_through_many_columns(self):
        for by in [1, -1, 10 ** 30]:
            section, order, spans = chain([0] * 10 + [by])
            last = len(order) - 1
            word, ring = self.answer(section, order, -1, last, spans)
            self.assertEqual(word, "moved")
            self.assertEqual(sorted([column for _, column, _ in ring]), list(range(12)))
            self.same(self.answer(section, order, 0, last, spans)[0], "still")
            self.same(self.answer(section, order, -1, last - 1, spans)[0], "still")
        section, order, spans = chain([5, -7, 9, 10 ** 29, 0, 0, -10 ** 29, 1, -8, 3, -3])
        self.same(self.answer(section, order, -1, len(order) - 1, spans)[0], "still")
        self.same(self.answer(section, order, -1, len(order), spans)[0], "moved")

    def test_levels_of_thirty_digits(self):
        thick = 10 ** 29
        section = Section.read(f"{thick} a:{thick}\n{-thick} a:{thick}~x b:7")
        for spans in [None, {B: (1, 1)}]:
            self.same(self.answer(section, [A, X, B], -1, 0, spans)[0], "still")
            self.same(self.answer(section, [A, X, B], -1, 1, spans)[0], "moved")
            self.same(self.answer(section, [A, X, B], 1, 3, spans)[0], "moved")
            self.same(self.answer(section, [A, X, B], 2, 3, spans), ("still", [thick, -thick], [7, 0]))
        one = Section.read(f"0 a:{GREAT}\n0 a:{GREAT}")
        self.same(self.answer(one, [A], -1, 1), ("still", [0, 0], [0, GREAT, 0]))
        two = Section.read(f"0 a:{GREAT}\n0 a:{GREAT - 1}")
        self.same(self.answer(two, [A], -1, 1)[0], "moved")

    def test_answers_are_new(self):
        section = Section.read("0 a:4\n3 a:2~x")
        for first, last in [(-1, 0), (-1, 2)]:
            value = still(section, [A, X], first, last)
            for part in value[1:]:
                part.clear()
            self.assertTrue(still(section, [A, X], first, last)[1])


class ShowsTest(StillCase):

    def test_others_that_are_right(self):
        """The lay at -5 or below, the dike anywhere: each foot and level can move as far as its bounds."""
        section = Section.read("0~x\n5#r")
        order = [A, R, X]
        for foot, level, cut in [(0, 0, 0), (0, 7, 0), (-1, -9, -1), (-GREAT, 4, -GREAT)]:
            wanted = foot <= 0 and cut == foot
            self.same(self.shows(section, order, (-1, 2), ("still", [foot, cut - 1], [0, level, cut - 1, cut])), wanted)
        self.same(self.shows(section, order, (0, 2), ("still", [4, 3], [GREAT, 3, 4])), True)
        self.same(self.shows(section, order, (0, 0), ("still", [GREAT, -GREAT], [0])), True)

    def test_one_too_high_or_too_low_at_a_bound(self):
        section = Section.read("0 a:4~x b:1\n0 a:6")
        order = [A, X, B]
        right = ("still", [0, 0], [0, 6, 4, 5, 0])
        self.same(self.shows(section, order, (-1, 3), right), False)
        run = (-1, 0)
        right = ("still", [0, 0], [0, 6])
        self.same(self.shows(section, order, run, right), True)
        for column in [0, 1]:
            for by in [-1, 1]:
                feet = [0, 0]
                feet[column] = by
                self.same(self.shows(section, order, run, ("still", feet, [0, 6])), False)
        for levels in [[0, 5], [0, 7], [1, 6], [-1, 6], [0, -6]]:
            self.same(self.shows(section, order, run, ("still", [0, 0], levels)), False)
        bounds = {A: (0, 0)}, (0, 0)
        low = Section.read("0 a:4~x")
        for level in range(2, 7):
            self.same(self.shows(low, [A, X], bounds[1], ("still", [0], [level]), bounds[0]), level >= 4)
        bare = Section.read("0 a:4")
        for level in range(2, 7):
            self.same(self.shows(bare, [A, B], (1, 1), ("still", [0], [level])), level <= 4)
            self.same(self.shows(bare, [A, X], (1, 1), ("still", [0], [level])), level >= 5)

    def test_the_ground_and_now_have_level_0(self):
        section = Section.read("3 a:1")
        for feet, levels, run, wanted in [([0], [0], (-1, -1), True), ([1], [1], (-1, -1), False),
                                          ([3], [0], (1, 1), True), ([4], [1], (1, 1), False),
                                          ([4], [5, 1], (0, 1), False), ([3], [4, 0], (0, 1), True),
                                          ([1], [1, 2], (-1, 0), False), ([0], [0, 1], (-1, 0), True)]:
            self.same(self.shows(section, [A], run, ("still", feet, levels)), wanted)

    def test_lists_too_short_or_too_long_and_numbers_that_are_none(self):
        section = Section.read("0 a:1\n0 a:1")
        run = (-1, 1)
        for feet, levels, wanted in [
                ([0, 0], [0, 1, 0], True), ((0, 0), [0, 1, 0], True), ([0, 0], (0, 1, 0), True),
                ((0, 0), (0, 1, 0), True), ([0], [0, 1, 0], False), ([0, 0, 0], [0, 1, 0], False),
                ([], [0, 1, 0], False), ([0, 0], [0, 1], False), ([0, 0], [0, 1, 0, 0], False), ([0, 0], [], False),
                ([0, False], [0, 1, 0], False), ([0, 0], [0, True, 0], False), ([0, 0], [False, 1, 0], False),
                ([0, None], [0, 1, 0], False), ([0, 0], [0, "1", 0], False), ([0, [0]], [0, 1, 0], False),
                ("00", [0, 1, 0], False), ({0: 0, 1: 0}, [0, 1, 0], False), (None, [0, 1, 0], False)]:
            self.same(self.shows(section, [A], run, ("still", feet, levels)), wanted)
            self.same(self.shows(section, [A], run, ["still", feet, levels]), False)
            self.same(self.shows(section, [A], run, ("moved", feet, levels)), False)
            self.same(self.shows(section, [A], run, ("still", feet)), False)
            self.same(self.shows(section, [A], run, ("still", feet, levels, levels)), False)

    def test_rings(self):
        section = Section.read("0 a:1~x\n0 a:4~x")
        order = [A, X]
        ring = [(1, 0, 1), (1, 1, 1)]
        self.same(self.shows(section, order, (1, 1), ("moved", ring)), False)
        # The cut at 1 over the one foot is the cut at 4 over the other, and now the feet are as high.
        ring = [(1, 0, 2), (2, 1, 1)]
        self.same(self.shows(section, order, (1, 2), ("moved", ring)), True)
        for value, wanted in [
                (ring[::-1], True), (tuple(ring), True), (ring + ring, True), (ring + [(1, 0, 1)], True),
                ([(1, 1, 1)] + ring, True), ([], False), ((), False), (ring[:1], False), (ring[1:], False),
                ([ring[0], ring[1], ring[0]], False), ([(2, 0, 1), (1, 1, 2)], False), ([(1, 1, 2), (2, 0, 1)], False),
                ([(1, 0, 2), (2, 0, 1)], False), ([list(step) for step in ring], False),
                ([ring[0], list(ring[1])], False), ([(1, 0, 2, 0), (2, 1, 1)], False), ([(1, 0), (2, 1, 1)], False),
                ([(1, False, 2), (2, 1, 1)], False), ([(1, 0, 2), (2, True, True)], False),
                ([(True, 0, 2), (2, 1, 1)], False), ([(1, 0, 2), (2, 2, 1)], False), ([(1, 0, 2), (2, -1, 1)], False),
                ([(1, 0, 3), (3, 1, 1)], False), ([(1, 0, 0), (0, 1, 1)], False), ([(1, 0, -1), (-1, 1, 1)], False),
                ([(1, 0, 2), None], False), ([None], False), (ring[0], False), ([[]], False), ([()], False),
                ("ring", False), ({ring[0]: ring[1]}, False), (None, False)]:
            with self.subTest(value=value):
                self.same(self.shows(section, order, (1, 2), ("moved", value)), wanted)
                self.same(self.shows(section, order, (1, 2), ("still", value)), False)
                self.same(self.shows(section, order, (1, 2), ("moved", value, value)), False)
                self.same(self.shows(section, order, (1, 2), ["moved", value]), False)
                self.same(self.shows(section, order, (1, 2), value), False)

    def test_a_ring_in_a_run_that_begins_later_or_ends_earlier(self):
        section = Section.read("0 a:1~x\n0 a:4~x")
        ring = [(1, 0, 2), (2, 1, 1)]
        for first in range(-1, 3):
            for last in range(first, 3):
                wanted = first <= 1 and last == 2
                self.same(self.shows(section, [A, X], (first, last), ("moved", ring)), wanted)

    def test_a_step_starts_where_there_is_an_upper_bound_and_ends_where_there_is_a_lower_one(self):
        section = Section.read("0 a:1~x\n0 a:4\n0#r")
        order = [A, B, R, X]
        rows = bounds_of(section, order, None)
        for start in range(-1, 5):
            for goal in range(-1, 5):
                for column in range(3):
                    gain = None
                    if rows[start][column][1] is not None and rows[goal][column][0] is not None:
                        gain = rows[goal][column][0] - rows[start][column][1]
                    ring = [(start, column, goal)]
                    wanted = gain is not None and gain > 0 and (start == goal or sorted(ring[0][::2]) == [-1, 4])
                    self.same(self.shows(section, order, (-1, 4), ("moved", ring)), wanted)

    def test_gains_whose_sum_is_0(self):
        section = Section.read("0 a:4\n3 a:4")
        self.same(self.shows(section, [A], (-1, 0), ("moved", [(-1, 0, 0), (0, 1, -1)])), False)
        self.same(self.shows(section, [A], (-1, 0), ("moved", [(0, 0, 0)])), False)
        self.same(self.shows(section, [A], (0, 1), ("moved", [(0, 0, 1), (1, 1, 0)])), True)
        self.same(self.shows(section, [A], (0, 1), ("moved", [(0, 1, 1), (1, 0, 0)])), False)

    def test_a_ring_from_the_ground_to_now(self):
        for text, ring in [("5", [(1, 0, -1)]), ("-5", [(-1, 0, 1)])]:
            section = Section.read(text)
            self.same(self.shows(section, [A], (-1, 1), ("moved", ring)), True)
            self.same(self.shows(section, [A], (-1, 1), ("moved", [step[::-1] for step in ring])), False)
            for run in [(-1, -1), (-1, 0), (0, 0), (0, 1), (1, 1)]:
                self.same(self.shows(section, [A], run, ("moved", ring)), False)
        section = Section.read("5 a:2")
        # Up from the ground to the lay, down from the lay to now, which is not where the ground is.
        ring = [(1, 0, 0), (0, 0, -1)]
        self.same(self.shows(section, [A], (-1, 1), ("moved", ring)), True)
        self.same(self.shows(section, [A], (-1, 0), ("moved", ring)), False)
        self.same(self.shows(section, [A], (0, 1), ("moved", ring)), False)

    def test_only_the_ground_and_now_count_as_one(self):
        section = Section.read("0 a:4\n3 a:4")
        self.same(self.shows(section, [A, X], (-1, 2), ("moved", [(0, 0, 1)])), False)
        self.same(self.shows(section, [A, X], (-1, 2), ("moved", [(0, 0, 0), (2, 1, -1)])), False)
        self.same(self.shows(section, [A, X], (-1, 2), ("moved", [(2, 1, -1)])), True)

    def test_any_value(self):
        section = Section.read("3 a:4")
        for run in [(-1, 1), (-1, 0), (1, 1)]:
            for value in any_values() + [("still",), ("moved",), ("still", None, None), ("moved", None), "still",
                                         "moved"]:
                for shown in [value, ("still", value, value), ("moved", value), ("moved", [value]), (value, [], []),
                              (value, []), ("still", [value], [0]), ("moved", [(value, 0, -1)]),
                              ("moved", [(1, value, -1)]), ("moved", [(1, 0, value)])]:
                    right = [("moved", [(1, 0, -1)])] if run == (-1, 1) else []
                    right += [("still", [3], [0])] if run == (1, 1) else []
                    self.same(self.shows(section, [A], run, shown), repr(shown) in [repr(other) for other in right])

    def test_the_wrong_word_for_a_run(self):
        section = Section.read("0 a:4\n3 a:2~x")
        order = [A, X]
        for first in range(-1, 3):
            for last in range(first, 3):
                value = still(section, order, first, last)
                for other_first in range(-1, 3):
                    for other_last in range(other_first, 3):
                        run = (other_first, other_last)
                        shown = self.shows(section, order, run, value)
                        if value[0] != still(section, order, other_first, other_last)[0]:
                            self.assertIs(shown, False)


class RefusedTest(Case):

    def setUp(self):
        self.section = Section.read("0\n0 a:1\n0#r")
        self.order = [X, A, R]

    def calls(self, section, order, first, last, **keywords):
        return [lambda: still(section, order, first, last, **keywords),
                lambda: shows_still(section, order, first, last, None, **keywords)]

    def all_refuse(self, error, *arguments, **keywords):
        for call in self.calls(*arguments, **keywords):
            self.refused(error, call)

    def test_sections_orders_and_spans(self):
        for text, item in unreadable():
            self.all_refuse(Repeated(item), Section.read(text), None, None, None, spans=0)
        for value in any_values() + NO_ORDERS + [[A, R, C, R], [A], [A, R, Y, ("dike", "s")]]:
            self.all_refuse(InvalidOrder(value), self.section, value, None, None, spans=0)
        for value in any_values() + wrong_spans(self.section, self.order):
            if value is not None and value != {}:
                self.all_refuse(InvalidSpans(value), self.section, self.order, None, None, spans=value)

    def test_places(self):
        for value in any_values() + [-2, 4, 5]:
            if type(value) is not int or not -1 <= value <= 3:
                for other in [None, True, -2, 4, 0, 3]:
                    self.all_refuse(NoPlace(value), self.section, self.order, value, other, spans={A: (1, 1)})
                for other in [-1, 0, 3]:
                    self.all_refuse(NoPlace(value), self.section, self.order, other, value)

    def test_last_less_than_first(self):
        for first in range(-1, 4):
            for last in range(-1, first):
                self.all_refuse(NoPlace(last), self.section, self.order, first, last)

    def test_spans_only_by_name(self):
        self.assertRaises(TypeError, still, self.section, self.order, 0, 0, None)
        self.assertRaises(TypeError, shows_still, self.section, self.order, 0, 0, None, None)
