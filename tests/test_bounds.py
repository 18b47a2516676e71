"""Surfaces: each row of the table of [12], what is refused, and that they say what a reading is."""

from rockbeds.bounds import surface
from rockbeds.errors import InvalidOrder, InvalidSpans, NoColumn, NoPlace, Repeated
from rockbeds.readings import is_reading
from rockbeds.sections import Section
from tests.case import GREAT, Case, any_values
from tests.cells import Numbers
from tests.samples import A, B, C, R, S, X, Y, Z, keeps_surfaces, nudged, some_sample, wrong_spans
from tests.test_orders import NO_ORDERS, unreadable

P, Q, V, W = ("lay", "p"), ("lay", "q"), ("cut", "v"), ("cut", "w")
FREE = (None, None)
FOUR = "3#r a:2 b:4~x c:1\n-2~y a:5~x c:2\n0 b:1\n7#s~y b:3~z"

# The lays p and q and the cuts v and w left nothing.
TABLE = [
    (None, [FREE, (0, None), (0, 0), FREE]),
    (S, [FREE, FREE, FREE, (0, None)]),
    (P, [FREE, FREE, (None, 0), FREE]),
    (R, [(0, 0), FREE, FREE, FREE]),
    (Y, [(1, None), (0, 0), (1, None), (0, 0)]),
    (V, [(1, None), (1, None), (1, None), (1, None)]),
    (A, [(2, 2), (5, None), (None, 0), (None, 0)]),
    (B, [(6, None), FREE, (1, 1), (3, None)]),
    (X, [(6, 6), (5, 5), (2, None), (3, None)]),
    (Q, [(None, 6), (None, 5), (None, 1), FREE]),
    (Z, [(7, None), (6, None), (2, None), (3, 3)]),
    (W, [(7, None), (6, None), (2, None), (4, None)]),
    (C, [(7, 7), (7, 7), (None, 1), (None, 3)]),
    (None, [(-3, -3), (2, 2), (0, 0), (-7, -7)]),
]
ORDER = [item for item, _ in TABLE if item is not None]


class TableTest(Case):

    def check(self, section, order, spans, rows):
        """The surfaces of all places in all columns, from the ground to now."""
        for at, row in enumerate(rows, start=-1):
            for column, wanted in enumerate(row):
                with self.subTest(at=at, column=column):
                    self.same(surface(section, order, at, column, spans=spans), wanted)
                    self.same(surface(section, tuple(order), at, column, spans=spans), wanted)

    def test_each_row(self):
        rows = [row for _, row in TABLE]
        for spans in [None, {}]:
            self.check(Section.read(FOUR), ORDER, spans, rows)
        self.same(surface(Section.read(FOUR), ORDER, 0, 3), (0, None))
        self.same(surface(column=3, at=0, order=ORDER, section=Section.read(FOUR), spans=None), (0, None))

    def test_spans(self):
        spans = {A: (0, 1), Y: (1, 3), P: (0, 1), V: (2, 2), Q: (0, 0), C: (0, 1), W: (3, 3), B: (0, 3), X: (0, 2)}
        rows = []
        for item, row in TABLE:
            first, last = spans.get(item, (0, 3))
            rows.append([bounds if first <= at <= last else FREE for at, bounds in enumerate(row)])
        self.check(Section.read(FOUR), ORDER, spans, rows)
        turned = {item: spans[item] for item in reversed(list(spans))}
        self.check(Section.read(FOUR), ORDER, turned, rows)
        self.same(rows[2], [FREE] * 4)
        self.same(rows[4], [FREE, (0, 0), (1, None), (0, 0)])

    def test_without_items(self):
        self.check(Section.read("0\n-4\n9"), [], None, [[(0, 0)] * 3, [(0, 0), (4, 4), (-9, -9)]])
        self.check(Section.read("2~x\n3#r\n3#s~x"), [R, S, X], None, [
            [(0, None), FREE, FREE],
            [FREE, (0, 0), FREE],
            [FREE, FREE, (0, None)],
            [(0, 0), (1, None), (0, 0)],
            [(-2, -2), (-3, -3), (-3, -3)]])

    def test_marks_before_at_and_after_the_place(self):
        """The contact on the bed a: the cut x came before the events, is one of them, or came after them."""
        section = Section.read("0 a:4~x")
        for order, lay, cut in [([A, X, B, Y], (None, 4), (5, None)), ([A, B, Y, X], FREE, (4, None))]:
            self.same(surface(section, order, order.index(B), 0), lay)
            self.same(surface(section, order, order.index(Y), 0), cut)
            self.same(surface(section, order, order.index(X), 0), (4, 4))
        bare = Section.read("0 a:4")
        self.same(surface(bare, [A, B, Y], 1, 0), (None, 4))
        self.same(surface(bare, [A, B, Y], 2, 0), (5, None))
        rooted = Section.read("0#r~x")
        for order, lay, cut in [([R, X, B, Y], (None, 0), (1, None)), ([R, B, Y, X], FREE, (0, None)),
                                ([B, Y, R, X], FREE, FREE)]:
            self.same(surface(rooted, order, order.index(B), 0), lay)
            self.same(surface(rooted, order, order.index(Y), 0), cut)

    def test_before_the_dike_nothing_is_bounded(self):
        section = Section.read("5#r a:2\n0 a:1")
        order = [B, X, R, A]
        self.check(section, order, None, [
            [FREE, (0, 0)], [FREE, (None, 0)], [FREE, (1, None)], [(0, 0), FREE], [(2, 2), (1, 1)], [(-5, -5), (0, 0)]])

    def test_a_rock_a_cut_and_a_dike_of_one_name(self):
        section = Section.read("0#a~a a:2~b b:1")
        order = [("dike", "a"), ("cut", "a"), A, ("cut", "b"), B]
        self.check(section, order, None, [[FREE], [(0, None)], [(0, 0)], [(2, None)], [(2, 2)], [(3, 3)], [(0, 0)]])

    def test_great_levels(self):
        thick = GREAT // 10
        section = Section.read(f"{-thick} a:{thick}~x b:{thick}")
        self.check(section, [A, C, X, B], {C: (0, 0)}, [
            [(0, 0)], [(thick, None)], [FREE], [(thick, thick)], [(2 * thick, 2 * thick)], [(thick, thick)]])

    def test_they_say_which_histories_are_readings(self):
        numbers = Numbers(505)
        kept = []
        for round_ in range(300):
            sample = some_sample(numbers, 1 + round_ % 5, 8)
            for _ in range(4):
                history = nudged(numbers, sample.known, sample.width)
                wanted = history(Section.flat(sample.width)) == sample.section
                self.assertIs(keeps_surfaces(sample.section, history), wanted)
                self.assertIs(is_reading(sample.section, sample.order, history, spans=sample.spans), wanted)
                kept.append(wanted)
        self.assertGreater(kept.count(True), 100)
        self.assertGreater(kept.count(False), 100)


class RefusedTest(Case):

    def setUp(self):
        self.section = Section.read("0\n0 a:1\n0#r")
        self.order = [X, A, R]

    def test_not_readable(self):
        for text, item in unreadable():
            self.refused(Repeated(item), surface, Section.read(text), None, None, None, spans=0)

    def test_orders(self):
        for value in any_values() + NO_ORDERS + [[A, A, R], [A], [R], [X, A], [A, R, S], {A: 0, R: 1}]:
            self.refused(InvalidOrder(value), surface, self.section, value, None, None, spans=0)
            self.refused(InvalidOrder(value), surface, self.section, value, 0, 0)

    def test_spans(self):
        for value in any_values() + wrong_spans(self.section, self.order):
            if value is not None and value != {}:
                self.refused(InvalidSpans(value), surface, self.section, self.order, None, None, spans=value)
                self.refused(InvalidSpans(value), surface, self.section, tuple(self.order), 0, 0, spans=value)
        for value in [None, {}, {A: (1, 1)}, {A: (0, 1)}, {A: (1, 2)}, {X: (0, 0)}, {X: (2, 2), A: (0, 2)}]:
            self.same(surface(self.section, self.order, 2, 2, spans=value), (0, 0))

    def test_spans_outside_of_which_a_mark_stands(self):
        section = Section.read("0\n0~x\n0 a:1~x")
        for span in [(1, 1), (2, 2), (0, 0), (0, 1)]:
            self.refused(InvalidSpans({X: span}), surface, section, [A, X], 0, 0, spans={X: span})
        for span in [(1, 2), (0, 2)]:
            self.same(surface(section, [A, X], 1, 1, spans={X: span}), (0, 0))

    def test_places(self):
        for value in any_values() + [-2, 4, 5, -1.0, "0", (0,)]:
            if type(value) is not int or not -1 <= value <= 3:
                self.refused(NoPlace(value), surface, self.section, self.order, value, None)
                self.refused(NoPlace(value), surface, self.section, self.order, value, 0, spans={A: (1, 1)})
        for order, most in [([], 0), ([A], 1)]:
            self.refused(NoPlace(most + 1), surface, Section.flat(1), order, most + 1, 0)

    def test_columns(self):
        for value in any_values() + [-1, 3, 4, 2.0, "0", (0,)]:
            if type(value) is not int or not 0 <= value <= 2:
                for at in [-1, 0, 3]:
                    self.refused(NoColumn(value), surface, self.section, self.order, at, value)

    def test_spans_only_by_name(self):
        self.assertRaises(TypeError, surface, self.section, self.order, 0, 0, None)
