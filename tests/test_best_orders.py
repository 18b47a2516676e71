"""Orders that need the fewest lifts, and the lifts that parts, mirror images and other names need. [15, 16]"""

from itertools import permutations

from rockbeds.columns import Column
from rockbeds.errors import Repeated, Ringed, TooMany
from rockbeds.orders import fits, items, name_ring
from rockbeds.readings import best_order, fewest_lifts
from rockbeds.sections import Section
from tests.case import Case
from tests.cells import Numbers
from tests.samples import A, R, some_sample
from tests.test_orders import some_readable, unreadable


def with_levels(numbers, section):
    """The same items at any levels."""
    columns = [Column(numbers.between(-4, 4), [(bed[0], numbers.between(1, 4), bed[2]) for bed in column.beds],
                      root=column.root, mark=column.mark) for column in section.columns]
    return Section(columns)


class BestTest(Case):

    def check(self, section):
        """Against all orders, tried one by one."""
        every = [order for order in permutations(items(section)) if fits(section, order)]
        best = best_order(section)
        self.assertIs(type(best), tuple)
        self.assertIn(best, every)
        self.assertEqual(fewest_lifts(section, best), min([fewest_lifts(section, order) for order in every]))
        self.same(best_order(section=section), best)
        return best

    def test_no_items(self):
        for text in ["0", "0\n0", "5", "-5\n3"]:
            self.same(self.check(Section.read(text)), ())

    def test_where_one_order_alone_is_best(self):
        """A bed that ends at a dike is older: a dike would have been covered."""
        for text in ["0 a:3\n0#r", "0#r\n0 a:3", "0 a:3\n0#r\n0 a:3"]:
            self.same(self.check(Section.read(text)), (A, R))
            self.assertEqual(fewest_lifts(Section.read(text), [A, R]), 0)
            self.assertEqual(fewest_lifts(Section.read(text), [R, A]), 1)

    def test_any_section(self):
        numbers = Numbers(401)
        checked, counts = 0, [0] * 7
        while checked < 150:
            section = with_levels(numbers, some_readable(numbers, 6))
            if name_ring(section) is None and counts[len(items(section))] < 40:
                self.check(section)
                counts[len(items(section))] += 1
                checked += 1
        self.assertTrue(all(counts), counts)

    def test_sections_of_short_histories(self):
        numbers = Numbers(405)
        worse = 0
        for _ in range(400):
            sample = some_sample(numbers, numbers.between(1, 4), 7)
            if len(items(sample.section)) <= 5:
                best = self.check(sample.section)
                lifts = fewest_lifts(sample.section, best)
                self.assertLessEqual(lifts, fewest_lifts(sample.section, sample.order))
                every = [order for order in permutations(best) if fits(sample.section, order)]
                worse += any([fewest_lifts(sample.section, order) > lifts for order in every])
        self.assertGreater(worse, 30)

    def test_twelve_columns(self):
        numbers = Numbers(411)
        for _ in range(3):
            columns = [Column(numbers.between(-4, 4), [(numbers.one_of("abcde"), numbers.between(1, 4), None)])
                       for _ in range(12)]
            self.check(Section(columns))

    def test_six_and_seven_items(self):
        self.same(best_order(Section.read("0 " + " ".join([rock + ":1" for rock in "fedcba"]))),
                  tuple([("lay", rock) for rock in "fedcba"]))
        for text in ["0 " + " ".join([rock + ":1" for rock in "abcdefg"]),
                     "\n".join(["0 " + rock + ":1" for rock in "abcdefg"]),
                     "0#r~x a:1~y b:1~z c:1", "0 a:1 b:1\n0 b:1 a:1\n0 c:1\n0 d:1\n0 e:1\n0 f:1\n0 g:1"]:
            self.refused(TooMany(6), best_order, Section.read(text))

    def test_repeated_first(self):
        for text, item in unreadable():
            self.refused(Repeated(item), best_order, Section.read(text))
        row = "0 " + " ".join([rock + ":1" for rock in "abcdefga"])
        self.refused(Repeated(A), best_order, Section.read(row))

    def test_name_rings(self):
        numbers = Numbers(421)
        sections = [Section.read("0 a:1 b:1\n0 b:1 a:1"), Section.read("0 a:1 b:1\n0 b:1 c:1\n0 c:1 a:1 d:1\n0 e:1"),
                    Section.read("0~x a:1\n0 a:1~x")]
        while len(sections) < 20:
            section = some_readable(numbers, 6)
            if name_ring(section) is not None:
                sections.append(section)
        for section in sections:
            with self.assertRaises(Ringed) as caught:
                best_order(section)
            ring = caught.exception.ring
            self.assertIs(type(ring), tuple)
            self.assertEqual(len(set(ring)), len(ring))
            for item, follower in zip(ring, ring[1:] + ring[:1]):
                self.assertTrue(any([self.stands_before(column, item, follower) for column in section.columns]))

    def stands_before(self, column, item, follower):
        row = items_of(column)
        return item in row and follower in row and row.index(item) < row.index(follower)


def items_of(column):
    row = [("dike", column.root), ("cut", column.mark)]
    for rock, _, mark in column.beds:
        row += [("lay", rock), ("cut", mark)]
    return [item for item in row if item[1] is not None]


def part_of(sample, first, last):
    """The order and the spans for the columns from first to last. [16]"""
    order, spans = [], {}
    dikes = [item for column in sample.section.columns[first:last + 1] for item in items_of(column)]
    for item in sample.order:
        if item[0] == "dike" and item not in dikes:
            continue
        if item in sample.spans:
            west, east = max(first, sample.spans[item][0]), min(last, sample.spans[item][1])
            if west > east:
                continue
            spans[item] = (west - first, east - first)
        order.append(item)
    return order, spans


class ChangedSectionsTest(Case):

    def samples(self, start, count):
        numbers = Numbers(start)
        for round_ in range(count):
            sample = some_sample(numbers, 1 + round_ % 8, 12)
            spans = [sample.spans] if round_ % 2 else [sample.spans, {}]
            for given in spans:
                sample.spans = given
                yield sample, fewest_lifts(sample.section, sample.order, spans=given)

    def test_parts_need_no_more_lifts(self):
        fewer = 0
        for sample, lifts in self.samples(431, 60):
            for first in range(sample.width):
                for last in range(first, sample.width):
                    order, spans = part_of(sample, first, last)
                    part = fewest_lifts(sample.section.part(first, last), order, spans=spans)
                    self.assertLessEqual(part, lifts)
                    fewer += part < lifts
            self.assertEqual(part_of(sample, 0, sample.width - 1), (sample.order, sample.spans))
        self.assertGreater(fewer, 100)

    def test_the_mirror_image_needs_as_many(self):
        for sample, lifts in self.samples(441, 80):
            end = sample.width - 1
            spans = {item: (end - last, end - first) for item, (first, last) in sample.spans.items()}
            self.assertEqual(fewest_lifts(sample.section.mirrored(), sample.order, spans=spans), lifts)

    def test_other_names_need_as_many(self):
        for sample, lifts in self.samples(451, 80):
            names = {name: "new" + name for name in "abcdefghijkl"}
            order = [(kind, names[name]) for kind, name in sample.order]
            spans = {(kind, names[name]): span for (kind, name), span in sample.spans.items()}
            section = sample.section.renamed(**names)
            self.assertEqual(fewest_lifts(section, order, spans=spans), lifts)
