"""Items, and orders that fit."""

from itertools import islice, permutations

from rockbeds.columns import Column
from rockbeds.errors import InvalidOrder, NoPlace, Repeated, TooMany
from rockbeds.events import Cut, Dike, Lay, Tilt
from rockbeds.orders import (fits, items, must_be_earlier, name_ring, need_fitting, need_readable, order_at,
                             order_count, order_number, orders)
from rockbeds.sections import Section
from tests.case import GREAT, Case, any_values
from tests.cells import Numbers, some_section

A, B, C, D = ("lay", "a"), ("lay", "b"), ("lay", "c"), ("lay", "d")
X, Y = ("cut", "x"), ("cut", "y")
R, S = ("dike", "r"), ("dike", "s")

NO_ORDERS = [
    {A: None}, {A}, A, "a", ["lay a"], [["lay", "a"]], [A, None], [("lay", "a", 1)], [("lay",)], [("Lay", "a")],
    [("lay", "A")], [("lay", "")], [("lay", None)], [("lay", ["a"])], [(["lay"], "a")], [("root", "a")], [(None, "a")],
    [A, A], [A, ["cut", "x"]], [A, ("cut", "clayclayc")], [Lay("a", 1)], [[A]], ((A,),),
]


def rows_of(section):
    """The items of each column, from below."""
    rows = []
    for column in section.columns:
        row = [("dike", column.root), ("cut", column.mark)]
        for rock, _, mark in column.beds:
            row += [("lay", rock), ("cut", mark)]
        rows.append([item for item in row if item[1] is not None])
    return rows


def readable(section):
    rows = rows_of(section)
    dikes = [item for row in rows for item in row if item[0] == "dike"]
    return all([len(row) == len(set(row)) for row in rows]) and len(dikes) == len(set(dikes))


def some_readable(numbers, most_items):
    """Any readable section without too many items, with rings among them."""
    while True:
        columns = []
        for at in range(numbers.between(1, 4)):
            names = list("abcd")
            beds = []
            for _ in range(numbers.below(4)):
                rock = names.pop(numbers.below(len(names)))
                beds.append((rock, 1, numbers.one_of([None, None, "x", "y", "z"])))
            columns.append(Column(0, beds, root=numbers.one_of([None, None, "rst"[at % 3]]),
                                  mark=numbers.one_of([None, None, None, "x", "y"])))
        section = Section(columns)
        if readable(section) and len(items(section)) <= most_items:
            return section


def fitting_orders(section):
    """All orders of exactly the section's items that fit, by trying."""
    rows = rows_of(section)
    found = sorted({item for row in rows for item in row})
    return [order for order in permutations(found)
            if all([sorted(row, key=order.index) == row for row in rows])]


def unreadable():
    """Sections that are not readable, each with the least item that makes it so."""
    return [
        ("0 a:1 b:1 a:1", A),
        ("0\n0 a:1~x a:1", A),
        ("0 a:1~x b:1~x", X),
        ("0~x a:1~x", X),
        ("0#r\n0#r", R),
        ("0#r a:1\n0#s\n0#r b:1\n0#s", R),
        ("0 b:1 a:1 b:1 a:1", A),
        ("0#r b:1 a:1 b:1\n0#r a:1", R),
        ("0#r b:1~x a:1~x b:1\n0#r a:1", X),
        ("0#s\n0 a:1~x a:1\n0#s", S),
    ]


class ItemsTest(Case):

    def test_none(self):
        self.same(items(Section.flat(3)), [])
        self.same(items(section=Section.read("4\n-3")), [])

    def test_ascending_and_once(self):
        self.same(items(Section.read("0#r~x b:1 a:2~y\n0#s~y b:1~x\n0")), [X, Y, R, S, A, B])
        self.same(items(Section.read("0#a~a a:1~a")), [("cut", "a"), ("dike", "a"), ("lay", "a")])
        self.same(items(Section.read("0 a:1 b:1 a:1")), [A, B])

    def test_what_the_events_left(self):
        section = (Lay("a", 3) + Cut("x", 2) + Dike("r", 0, 2) + Tilt(1) + Lay("b", 1) + Cut("y", 9))(Section.flat(2))
        self.same(items(section), [X, R, A])

    def test_results_are_new(self):
        section = Section.read("0 a:1")
        items(section).clear()
        self.same(items(section), [A])


class ReadableTest(Case):

    def test_readable(self):
        for text in ["0", "0\n0", "0#r\n0#s", "0#a~a a:1~b", "0~x a:1\n0~x a:1", "0 a:1\n0 b:1 a:1\n0 a:1 b:1"]:
            self.assertIsNone(need_readable(Section.read(text)))
            self.assertIsNone(need_readable(section=Section.read(text)))

    def test_repeated(self):
        for text, item in unreadable():
            section = Section.read(text)
            self.refused(Repeated(item), need_readable, section)
            self.refused(Repeated(item), fits, section, None)
            self.refused(Repeated(item), need_fitting, section, None)
            self.refused(Repeated(item), must_be_earlier, section, None, None)
            self.refused(Repeated(item), name_ring, section)
            self.refused(Repeated(item), lambda: next(iter(orders(section))))
            self.refused(Repeated(item), lambda: list(orders(section)))
            self.refused(Repeated(item), order_count, section)
            self.refused(Repeated(item), order_at, section, None)
            self.refused(Repeated(item), order_number, section, None)

    def test_repeated_before_too_many(self):
        section = Section.read("0 " + " ".join([rock + ":1" for rock in "abcdefghijklm"]) + " a:1")
        for call in [lambda: order_count(section), lambda: order_at(section, 0), lambda: order_number(section, [])]:
            self.refused(Repeated(A), call)

    def test_any_section(self):
        numbers = Numbers(61)
        for round_ in range(150):
            section = some_section(numbers, 1 + round_ % 5)
            rows = rows_of(section)
            every = [item for row in rows for item in row]
            twice = sorted([item for item in set(every) if max([row.count(item) for row in rows]) > 1
                            or item[0] == "dike" and every.count(item) > 1])
            if twice:
                self.refused(Repeated(twice[0]), need_readable, section)
            else:
                self.assertIsNone(need_readable(section))


class FitsTest(Case):

    def check(self, section, order, wanted):
        for value in [list(order), tuple(order)]:
            self.same(fits(section, value), wanted)
            self.same(fits(order=value, section=section), wanted)
            if wanted:
                self.assertIsNone(need_fitting(section, value))
            else:
                self.refused(InvalidOrder(value), need_fitting, section, value)

    def test_without_items(self):
        section = Section.flat(2)
        self.check(section, [], True)
        self.check(section, [A, X, ("cut", "a")], True)
        self.check(section, [R], False)
        self.check(section, [A, A], False)

    def test_left_out_doubled_exchanged_added(self):
        section = Section.read("0#r~x a:1 b:2~y\n0 a:1 c:3")
        order = [R, X, A, B, Y, C]
        self.check(section, order, True)
        self.check(section, [R, X, A, C, B, Y], True)
        for at in range(6):
            self.check(section, order[:at] + order[at + 1:], False)
            for place in range(7):
                self.check(section, order[:place] + [order[at]] + order[place:], False)
                self.check(section, order[:place] + [D] + order[place:], True)
                self.check(section, order[:place] + [("cut", "new")] + order[place:], True)
                self.check(section, order[:place] + [S] + order[place:], False)
                self.check(section, order[:place] + [D] + order[place:] + [D], False)
        for one in range(6):
            for other in range(one + 1, 6):
                swapped = list(order)
                swapped[one], swapped[other] = order[other], order[one]
                self.check(section, swapped, (one, other) == (4, 5))

    def test_a_rock_and_a_cut_of_one_name(self):
        section = Section.read("0 a:1~a")
        self.check(section, [A, ("cut", "a")], True)
        self.check(section, [("cut", "a"), A], False)
        self.check(section, [A], False)
        self.check(section, [("dike", "a"), A, ("cut", "a")], False)

    def test_any_value(self):
        for section in [Section.flat(1), Section.read("0 a:1"), Section.read("0 clay:1")]:
            for value in any_values() + NO_ORDERS:
                wanted = value in ([], ()) and not items(section)
                self.same(fits(section, value), wanted)
                if not wanted:
                    self.refused(InvalidOrder(value), need_fitting, section, value)

    def test_any_section(self):
        numbers = Numbers(71)
        for _ in range(60):
            section = some_readable(numbers, 5)
            wanted = fitting_orders(section)
            for order in permutations(items(section)):
                self.check(section, order, order in wanted)


class EarlierTest(Case):

    def test_chains(self):
        section = Section.read("0#r~x a:1\n0 a:1 b:1\n0 c:1 b:1~y\n0 d:1")
        later = {R: [X, A, B, Y], X: [A, B, Y], A: [B, Y], B: [Y], C: [B, Y], Y: [], D: []}
        for one in later:
            for other in later:
                self.same(must_be_earlier(section, one, other), other in later[one])
        self.same(must_be_earlier(other=B, one=A, section=section), True)

    def test_around_a_ring(self):
        section = Section.read("0 a:1 b:1\n0 b:1 c:1\n0 c:1 a:1 d:1\n0 x:1 a:1")
        ring = [A, B, C]
        for one in ring:
            for other in ring:
                self.same(must_be_earlier(section, one, other), True)
            self.same(must_be_earlier(section, one, D), True)
            self.same(must_be_earlier(section, D, one), False)
            self.same(must_be_earlier(section, ("lay", "x"), one), True)
            self.same(must_be_earlier(section, one, ("lay", "x")), False)
        self.same(must_be_earlier(section, D, D), False)

    def test_no_items_of_the_section(self):
        section = Section.read("0 a:1~x")
        for value in any_values() + [B, R, Y, ("cut", "a"), ["lay", "a"], ("lay", "a", None), "a", [A], {A: A}, (A,)]:
            self.refused(InvalidOrder(value), must_be_earlier, section, value, A)
            self.refused(InvalidOrder(value), must_be_earlier, section, A, value)
            self.refused(InvalidOrder(value), must_be_earlier, section, value, None)
            self.refused(InvalidOrder(value), must_be_earlier, section, value, B)

    def test_any_section(self):
        numbers = Numbers(81)
        for _ in range(100):
            section = some_readable(numbers, 6)
            every = fitting_orders(section)
            if every:
                for one in items(section):
                    for other in items(section):
                        wanted = all([order.index(one) < order.index(other) for order in every])
                        self.same(must_be_earlier(section, one, other), wanted)


class RingTest(Case):

    def check_ring(self, section):
        ring = name_ring(section)
        self.assertIs(type(ring), tuple)
        self.assertEqual(len(set(ring)), len(ring))
        self.assertGreaterEqual(len(ring), 2)
        rows = rows_of(section)
        for item, follower in zip(ring, ring[1:] + ring[:1]):
            self.assertTrue(any([item in row and follower in row and row.index(item) < row.index(follower)
                                 for row in rows]), ring)
        self.equal(name_ring(section=section), ring)

    def test_none(self):
        for text in ["0", "0 a:1 b:1\n0 a:1 b:1", "0#r~x a:1\n0 a:1~y"]:
            self.assertIsNone(name_ring(Section.read(text)))

    def test_two_and_more_items(self):
        for text in ["0 a:1 b:1\n0 b:1 a:1", "0 a:1 c:1 b:1\n0 b:1 d:1 a:1", "0~x a:1\n0 a:1~x",
                     "0 a:1 b:1\n0 b:1 c:1\n0 c:1 a:1", "0 z:1 a:1 b:1 y:1\n0 b:1 c:1\n0 c:1 d:1\n0 d:1~x\n0~x a:1 e:1",
                     "0 c:1 d:1\n0 d:1 e:1\n0 a:1 b:1\n0 b:1 a:1"]:
            self.check_ring(Section.read(text))

    def test_a_ring_of_twelve_columns(self):
        rocks = "abcdefghijkl"
        rows = ["0 " + rocks[at] + ":1 " + rocks[(at + 1) % 12] + ":1" for at in range(12)]
        self.check_ring(Section.read("\n".join(rows)))
        self.assertEqual(len(name_ring(Section.read("\n".join(rows)))), 12)
        self.assertIsNone(name_ring(Section.read("\n".join(rows[1:]))))

    def test_any_section(self):
        numbers = Numbers(91)
        found = 0
        for _ in range(200):
            section = some_readable(numbers, 6)
            if fitting_orders(section):
                self.assertIsNone(name_ring(section))
            else:
                self.check_ring(section)
                found += 1
        self.assertGreater(found, 10)

    def test_many_items(self):
        names = [one + other for one in "abcdefghijkl" for other in "abcdefghijklmnopqrstuvwxyz"]
        row = "0 " + " ".join([name + ":1" for name in names])
        self.assertIsNone(name_ring(Section.read(row)))
        self.check_ring(Section.read(row + "\n0 " + names[-1] + ":1 " + names[0] + ":1"))
        self.same(list(orders(Section.read(row))), [tuple([("lay", name) for name in names])])


class OrdersTest(Case):

    def test_without_items(self):
        section = Section.flat(2)
        self.same(list(orders(section)), [()])
        self.same(order_count(section), 1)
        self.same(order_at(section, 0), ())
        self.same(order_number(section, []), 0)
        self.same(order_number(section, ()), 0)
        self.refused(NoPlace(1), order_at, section, 1)
        self.refused(InvalidOrder([A]), order_number, section, [A])

    def test_one_order(self):
        section = Section.read("0#r~x b:1 a:2~y")
        self.same(list(orders(section)), [(R, X, B, A, Y)])
        self.same(order_count(section), 1)
        self.same(order_at(section, 0), (R, X, B, A, Y))

    def test_ascending(self):
        section = Section.read("0 b:1~x\n0 a:1")
        wanted = [(A, B, X), (B, X, A), (B, A, X)]
        self.same(list(orders(section)), sorted(wanted))
        self.same(list(orders(section=section)), [(A, B, X), (B, X, A), (B, A, X)])

    def test_a_ring(self):
        section = Section.read("0 a:1 b:1\n0 b:1 a:1\n0 c:1")
        self.same(list(orders(section)), [])
        self.same(order_count(section), 0)
        self.refused(NoPlace(0), order_at, section, 0)
        self.refused(InvalidOrder([A, B, C]), order_number, section, [A, B, C])

    def test_any_section(self):
        numbers = Numbers(101)
        for _ in range(120):
            section = some_readable(numbers, 6)
            wanted = fitting_orders(section)
            self.same(list(orders(section)), wanted)
            self.same(order_count(section), len(wanted))
            self.same(order_count(section=section), len(wanted))
            for number, order in enumerate(wanted):
                self.same(order_at(section, number), order)
                self.same(order_number(section, order), number)
                self.same(order_number(section, list(order)), number)
            for order in permutations(items(section)):
                if order not in wanted:
                    self.refused(InvalidOrder(order), order_number, section, order)
            self.refused(NoPlace(len(wanted)), order_at, section, len(wanted))

    def test_no_numbers(self):
        section = Section.read("0 a:1\n0 b:1\n0 c:1")
        self.same(order_at(number=5, section=section), (C, B, A))
        for value in any_values() + [-1, 6, 7]:
            if type(value) is not int or not 0 <= value < 6:
                self.refused(NoPlace(value), order_at, section, value)

    def test_no_orders(self):
        section = Section.read("0 a:1 b:1\n0 b:1~x")
        self.same(order_number(order=[A, B, X], section=section), 0)
        for value in any_values() + [[A, X, B], [A, B], [A, B, X, C], [A, A, B, X], [A, B, X, ("cut", "y")], [X, B, A],
                                     (A, B), {A: 0, B: 1, X: 2}, [["lay", "a"], B, X], [A, B, X, R], [(A, B, X)]]:
            self.refused(InvalidOrder(value), order_number, section, value)

    def test_orders_are_yielded_one_by_one(self):
        section = Section.read("\n".join(["0 " + rock + ":1" for rock in "abcdefghijkl"]))
        first = list(islice(orders(section), 3))
        self.same(first[0], tuple([("lay", rock) for rock in "abcdefghijkl"]))
        self.same(first[2], tuple([("lay", rock) for rock in "abcdefghikjl"]))
        wide = Section([Column(0, [(name + rock, 1, None) for rock in "abcde"]) for name in "abcdefghijkl"])
        yielded = list(islice(orders(wide), 50))
        self.assertEqual(yielded, sorted(yielded))
        self.assertEqual(len(set(yielded)), 50)
        for order in yielded:
            self.assertIs(fits(wide, order), True)

    def test_hundreds_of_millions(self):
        section = Section.read("\n".join(["0 " + rock + ":1" for rock in "abcdefghijkl"]))
        self.same(order_count(section), 479001600)
        backwards = tuple([("lay", rock) for rock in "lkjihgfedcba"])
        self.same(order_at(section, 479001599), backwards)
        self.same(order_number(section, backwards), 479001599)
        self.refused(NoPlace(479001600), order_at, section, 479001600)
        self.refused(NoPlace(GREAT), order_at, section, GREAT)
        for number in [1, 39916799, 39916800, 123456789, 400000001]:
            order = order_at(section, number)
            self.same(order_number(section, list(order)), number)
            self.assertIs(fits(section, order), True)
        self.same(order_at(section, 39916800)[:3], (B, A, C))

    def test_hundreds_of_millions_with_chains(self):
        rows = ["0 a:1 b:1"] + ["0 " + rock + ":1" for rock in "cdefghijkl"]
        section = Section.read("\n".join(rows))
        self.same(order_count(section), 479001600 // 2)
        for number in [0, 1, 100000000, 239500799]:
            order = order_at(section, number)
            self.assertIs(fits(section, order), True)
            self.same(order_number(section, order), number)
        self.assertLess(order_at(section, 99999999), order_at(section, 100000000))

    def test_four_columns_of_three_beds(self):
        section = Section.read("0 a:1 b:1 c:1\n0 e:1 f:1 g:1\n0 i:1 j:1 k:1\n0 m:1 n:1 o:1")
        self.same(order_count(section), 369600)
        first = tuple([("lay", rock) for rock in "abcefgijkmno"])
        last = tuple([("lay", rock) for rock in "mnoijkefgabc"])
        self.same(order_at(section, 0), first)
        self.same(order_at(section, 369599), last)
        self.refused(NoPlace(369600), order_at, section, 369600)
        self.refused(NoPlace(-1), order_at, section, -1)
        self.refused(InvalidOrder(last[::-1]), order_number, section, last[::-1])
        for number, order in enumerate(islice(orders(section), 2000)):
            self.same(order_at(section, number), order)
            self.same(order_number(section, order), number)
        before = ()
        for number in range(0, 369600, 100):
            order = order_at(section, number)
            self.assertLess(before, order)
            self.assertIs(fits(section, order), True)
            self.same(order_number(section, list(order)), number)
            before = order

    def test_parts_that_hang_together_and_apart(self):
        """Counts that a formula tells: ways to mix the orders of the parts."""
        for text, count in [("0 a:1 b:1\n0 a:1 c:1\n0 d:1 e:1\n0 f:1", 2 * 60),
                            ("0 a:1 b:1\n0 b:1 c:1\n0 d:1 c:1\n0 e:1 f:1", 3 * 15),
                            ("0 " + " ".join([rock + ":1" for rock in "abcdef"]) + "\n0 g:1 h:1 i:1 j:1 k:1 l:1", 924),
                            ("0 x:1 a:1\n0 x:1 b:1\n0 x:1 c:1\n0 x:1 d:1\n0 e:1", 24 * 6),
                            ("0 c:1 a:1\n0 c:1 b:1\n0 f:1 d:1\n0 f:1 e:1", 2 * 2 * 20)]:
            section = Section.read(text)
            self.same(order_count(section), count)
            for number in [0, 1, count // 2, count - 1]:
                self.same(order_number(section, order_at(section, number)), number)
            if count < 1000:
                every = list(orders(section))
                self.assertEqual([order_at(section, number) for number in range(count)], every)
                self.assertEqual([order_number(section, order) for order in every], list(range(count)))
            self.refused(NoPlace(count), order_at, section, count)

    def test_a_ring_beside_other_parts(self):
        section = Section.read("0 a:1 b:1 c:1\n0 c:1 b:1\n0 d:1 e:1\n0 f:1")
        self.same(order_count(section), 0)
        self.refused(NoPlace(0), order_at, section, 0)
        order = [("lay", rock) for rock in "abcdef"]
        self.refused(InvalidOrder(order), order_number, section, order)

    def test_twelve_and_thirteen_items(self):
        row = "0#r~x " + " ".join([rock + ":1" for rock in "abcdefghij"])
        twelve = Section.read(row)
        order = [R, X] + [("lay", rock) for rock in "abcdefghij"]
        self.same(order_count(twelve), 1)
        self.same(order_at(twelve, 0), tuple(order))
        self.same(order_number(twelve, order), 0)
        thirteen = Section.read(row + " k:1")
        order.append(("lay", "k"))
        self.refused(TooMany(12), order_count, thirteen)
        self.same(list(orders(thirteen)), [tuple(order)])
        for value in any_values() + [order, order[:3], 0, 1]:
            self.refused(TooMany(12), order_at, thirteen, value)
            self.refused(TooMany(12), order_number, thirteen, value)

    def test_equal_calls_return_equal_results(self):
        numbers = Numbers(111)
        for _ in range(30):
            section = some_readable(numbers, 6)
            text = section.text()
            self.same(list(orders(section)), list(orders(section)))
            self.same(name_ring(section), name_ring(section))
            self.same(section.text(), text)
