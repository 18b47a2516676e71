"""Events that can change places, and tidied histories."""

from rockbeds.columns import Column
from rockbeds.errors import NoColumn, WrongWidth
from rockbeds.events import Cut, Dike, Fault, History, Lay, Lift, Tilt
from rockbeds.sections import Section
from rockbeds.swaps import exchangeable, parting, tidied
from tests.case import GREAT, Case, any_values
from tests.cells import Numbers, some_event, some_section

WEST, EAST, BOTH = (0, 0), (1, 1), (0, 1)


def catalogue():
    """Events for two columns, at neighbouring levels, with all spans."""
    events = []
    for span in [None, WEST, EAST, BOTH]:
        for name in "ab":
            for level in [0, 1]:
                events += [Lay(name, level, span=span), Cut(name, level, span=span)]
    for rock in "ab":
        for at in [0, 1]:
            for level in [0, 1]:
                events.append(Dike(rock, at, level))
    return events + [Lift([0, 0]), Lift([1, 0]), Lift([0, -1]), Lift([2, 3]), Fault(0, 1), Fault(1, 1), Fault(1, 0),
                     Tilt(1), Tilt(0)]


def even_sections():
    """Sections of two like columns: each column changes without regard to the other."""
    columns = [Column(foot) for foot in range(-5, 6)]
    columns += [Column(-3, [("a", thickness, mark)]) for thickness in range(1, 6) for mark in [None, "x"]]
    return [Section([column, column]) for column in columns]


class ExchangeableTest(Case):

    def check(self, wanted, one, other, width):
        """In both orders, and with a section that parts the two if they are not exchangeable."""
        for first, second in [(one, other), (other, one)]:
            with self.subTest(first=first.text(), second=second.text(), width=width):
                self.same(exchangeable(first, second, width=width), wanted)
                section = parting(first, second, width=width)
                if wanted:
                    self.assertIsNone(section)
                else:
                    self.assertIsInstance(section, Section)
                    self.assertEqual(len(section), width)
                    self.unequal(second(first(section)), first(second(section)))

    def test_no_common_column(self):
        everything = [Lay("a", 5, span=(0, 1)), Cut("x", 1, span=(0, 1)), Dike("a", 1, 3), Dike("b", 0, 3),
                      Lift([4, 4, 0, 0]), Lift([0, -4, 0, 0])]
        beside = [Lay("b", 3, span=(2, 3)), Cut("y", 1, span=(2, 2)), Dike("b", 2, 4), Dike("a", 3, 3), Fault(2, 5),
                  Lift([0, 0, 1, 0]), Fault(0, 0), Tilt(0)]
        for one in everything:
            for other in beside:
                self.check(True, one, other, 4)
        self.check(True, Lay("a", 5), Tilt(7), 1)
        self.check(False, Lay("a", 5), Tilt(7), 2)
        self.check(True, Dike("a", 1, 3), Dike("b", 2, 3), 3)

    def test_spans_that_share_a_column(self):
        for one, other in [((0, 1), (1, 2)), ((0, 2), (1, 1)), (None, (2, 2)), ((1, 1), None), ((0, 0), (0, 0))]:
            self.check(False, Lay("a", 5, span=one), Lay("b", 5, span=other), 3)
            self.check(True, Lay("a", 5, span=one), Lay("a", 6, span=other), 3)
            self.check(False, Cut("a", 5, span=one), Lay("a", 5, span=other), 3)
            self.check(False, Cut("a", 5, span=one), Cut("b", 5, span=other), 3)
        for one, other in [((0, 1), (2, 2)), ((0, 0), (1, 2)), ((2, 2), (0, 0))]:
            self.check(True, Lay("a", 5, span=one), Lay("b", 5, span=other), 3)
            self.check(True, Cut("a", 5, span=one), Lay("a", 5, span=other), 3)
            self.check(True, Cut("a", 5, span=one), Cut("b", 5, span=other), 3)

    def test_lays_and_cuts(self):
        for level in range(-3, 4):
            self.check(True, Lay("a", 0), Lay("a", level), 2)
            self.check(False, Lay("a", 0), Lay("b", level), 2)
            self.check(True, Cut("a", 0), Cut("a", level), 2)
            self.check(level != 0, Cut("a", 0), Cut("b", level), 2)
            self.check(level > 0, Lay("a", 0), Cut("b", level), 2)
            self.check(level > 0, Lay("a", 0), Cut("a", level), 2)

    def test_dikes(self):
        for level in range(-3, 4):
            self.check(level == 0, Dike("a", 1, 0), Dike("a", 1, level), 2)
            self.check(False, Dike("a", 1, 0), Dike("b", 1, level), 2)
            self.check(True, Dike("a", 1, 0), Dike("a", 0, level), 2)
            for span in [None, (1, 1), (0, 1)]:
                self.check(level <= 0, Dike("a", 1, 0), Lay("b", level, span=span), 2)
                self.check(level <= 0, Dike("a", 1, 0), Lay("a", level, span=span), 2)
                self.check(level < 0, Dike("a", 1, level), Cut("b", 0, span=span), 2)
                self.check(level < 0, Dike("a", 1, level), Cut("a", 0, span=span), 2)

    def test_lifts(self):
        lifts = [Lift([1, 2, 3]), Lift([0, 0, 0]), Fault(0, 3), Fault(2, -3), Tilt(4), Tilt(0), Fault(1, 0)]
        for one in lifts:
            for other in lifts:
                self.check(True, one, other, 3)
        for by in [-GREAT, -1, 1, GREAT]:
            for lift in [Lift([0, by, 0]), Fault(1, by), Tilt(by)]:
                for event in [Lay("a", 4), Cut("a", 4), Lay("a", -GREAT, span=(1, 2)), Cut("a", GREAT, span=(0, 1)),
                              Dike("a", 1, 4)]:
                    self.check(False, lift, event, 3)
                for event in [Lay("a", 4, span=(0, 0)), Cut("a", 4, span=(0, 0)), Dike("a", 0, 4)]:
                    self.check(True, lift, event, 3)

    def test_great_levels(self):
        self.check(True, Lay("a", GREAT), Cut("x", GREAT + 1), 1)
        self.check(False, Lay("a", GREAT), Cut("x", GREAT), 1)
        self.check(False, Lay("a", -GREAT), Lay("b", GREAT), 1)
        self.check(False, Cut("a", -GREAT), Cut("b", -GREAT), 12)

    def test_each_pair_of_the_catalogue(self):
        sections = even_sections()
        events = catalogue()
        after = [[event(section) for section in sections] for event in events]
        for one, after_one in zip(events, after):
            for other, after_other in zip(events, after):
                alike = all([other(first) == one(second) for first, second in zip(after_one, after_other)])
                self.check(alike, one, other, 2)

    def test_any_pair(self):
        numbers = Numbers(41)
        for _ in range(1500):
            width = numbers.between(1, 5)
            one, other = some_event(numbers, width), some_event(numbers, width)
            wanted = exchangeable(one, other, width=width)
            self.check(wanted, one, other, width)
            if wanted:
                for _ in range(4):
                    section = some_section(numbers, width)
                    self.equal(one(other(section)), other(one(section)))

    def test_arguments_by_name(self):
        self.same(exchangeable(other=Lay("a", 1), width=1, one=Lay("a", 2)), True)
        self.assertIsNone(parting(other=Lay("a", 1), width=1, one=Lay("a", 2)))
        self.assertRaises(TypeError, exchangeable, Lay("a", 1), Lay("a", 2), 1)
        self.assertRaises(TypeError, parting, Lay("a", 1), Lay("a", 2), 1)
        self.assertRaises(TypeError, tidied, History(), 1)

    def test_equal_calls_return_equal_results(self):
        one, other = Lay("a", 1), Cut("x", 1)
        self.equal(parting(one, other, width=3), parting(one, other, width=3))


TEN = [Lay("a", 3), Lay("b", 3), Lay("a", 4), Cut("a", 3), Cut("b", 3), Cut("b", 5), Dike("c", 0, 3), Dike("c", 0, 4),
       Tilt(1), Lay("b", 2)]
# A row for each of them: "x" where the two are exchangeable, else what bedrock parts them, "l" low or "h" high.
AT_WIDTH_1 = """
    xlxllxxxxl
    lxlllxxxxx
    xlxllxlxxl
    lllxhxllxx
    lllhxxllxx
    xxxxxxxxxx
    xxlllxxlxx
    xxxllxlxxx
    xxxxxxxxxx
    lxlxxxxxxx
"""


class TenEventsTest(Case):

    def check(self, width, rows):
        for one, row in zip(TEN, rows):
            for other, wanted in zip(TEN, row):
                with self.subTest(one=one.text(), other=other.text(), width=width):
                    self.same(exchangeable(one, other, width=width), wanted == "x")
                    section = parting(one, other, width=width)
                    if wanted == "x":
                        self.assertIsNone(section)
                        continue
                    reach = max([abs(event.level) for event in (one, other) if not isinstance(event, Tilt)]) + 1
                    self.equal(section, Section([Column(reach if wanted == "h" else -reach)] * width))
                    self.unequal(other(one(section)), one(other(section)))

    def test_each_pair_at_width_1(self):
        self.check(1, AT_WIDTH_1.split())

    def test_each_pair_at_width_12(self):
        """A Tilt lifts the columns behind the first one: so it is parted from Lays and Cuts, but not from the Dikes."""
        rows = [list(row) for row in AT_WIDTH_1.split()]
        for at, event in enumerate(TEN):
            if isinstance(event, (Lay, Cut)):
                word = "l"
                if isinstance(event, Cut):
                    # Column 11 rises by 11, from below the level by one more than the level to the level or above it.
                    word = "l" if -(event.level + 1) + 11 >= event.level else "h"
                rows[at][8] = rows[8][at] = word
        self.check(12, rows)


class RefusedTest(Case):

    def test_widths(self):
        for value in any_values() + [0, 13, -1]:
            if type(value) is not int or not 1 <= value <= 12:
                for call in [exchangeable, parting]:
                    self.refused(WrongWidth(value), call, Lay("a", 1), Lay("a", 1), width=value)
                    self.refused(WrongWidth(value), call, Dike("a", 11, 1), Lift([1]), width=value)
                self.refused(WrongWidth(value), tidied, History(), width=value)
                self.refused(WrongWidth(value), tidied, History(Dike("a", 11, 1)), width=value)

    def test_events_that_cannot_be_applied(self):
        wrong = [(Dike("a", 3, 1), NoColumn(3)), (Fault(4, 0), NoColumn(4)), (Lift([1, 2]), WrongWidth(3)),
                 (Lay("a", 1, span=(1, 5)), NoColumn(5)), (Cut("a", 1, span=(6, 7)), NoColumn(7))]
        for event, error in wrong:
            for call in [exchangeable, parting]:
                self.refused(error, call, event, event, width=3)
                for other, _ in wrong:
                    self.refused(error, call, event, other, width=3)
                for other in [Lay("a", 1), Dike("b", 2, 1), Tilt(0), Lift([0, 0, 0])]:
                    self.refused(error, call, event, other, width=3)
                    self.refused(error, call, other, event, width=3)
            self.refused(error, tidied, History(Lay("a", 1), Tilt(0), event), width=3)
            for other, _ in wrong:
                self.refused(error, tidied, History(event, other), width=3)


class TidiedTest(Case):

    def check(self, width, events, wanted):
        history = History(*events)
        text = history.text()
        self.equal(tidied(history, width=width), History(*wanted))
        self.equal(tidied(history=history, width=width), History(*wanted))
        self.same(history.text(), text)

    def test_nothing_to_do(self):
        self.check(3, [], [])
        events = [Lay("a", 1), Lay("b", 2), Cut("x", 2), Tilt(1), Cut("x", 2), Lay("b", 2), Dike("a", 0, 1),
                  Dike("a", 0, 1), Fault(1, 1), Lay("a", 5), Cut("y", 5), Lay("a", 4)]
        self.check(3, events, events)

    def test_rule_1_lifts_by_nothing(self):
        for width, lift in [(1, Tilt(5)), (1, Tilt(0)), (3, Lift([0, 0, 0])), (2, Fault(1, 0)), (12, Tilt(0))]:
            self.check(width, [lift], [])
            self.check(width, [lift] * 3, [])
            self.check(width, [Lay("a", 1), lift, Dike("a", 0, 3)], [Lay("a", 1), Dike("a", 0, 3)])
        self.check(2, [Tilt(5)], [Tilt(5)])
        self.check(1, [Fault(0, 5)], [Fault(0, 5)])
        self.check(3, [Lift([0, 0, 1])], [Lift([0, 0, 1])])

    def test_rule_2_two_lifts(self):
        self.check(3, [Lift([1, 2, 3]), Lift([4, 5, -6])], [Lift([5, 7, -3])])
        self.check(3, [Fault(1, 2), Fault(1, 3)], [Lift([0, 5, 5])])
        self.check(3, [Tilt(1), Fault(2, 3)], [Lift([0, 1, 5])])
        self.check(3, [Tilt(GREAT), Tilt(GREAT)], [Lift([0, 2 * GREAT, 4 * GREAT])])
        self.check(2, [Tilt(1), Tilt(1), Tilt(1)], [Lift([0, 3])])
        self.check(2, [Tilt(1), Lay("a", 1), Tilt(1)], [Tilt(1), Lay("a", 1), Tilt(1)])

    def test_rule_1_before_rule_2_and_the_least_place_first(self):
        self.check(2, [Lift([0, 0]), Fault(1, 2)], [Fault(1, 2)])
        self.check(2, [Fault(1, 2), Lift([0, 0])], [Lift([0, 2])])
        self.check(2, [Fault(1, 2), Fault(1, -2)], [])
        self.check(2, [Fault(1, 2), Fault(1, -2), Fault(1, 3)], [Fault(1, 3)])
        self.check(2, [Fault(1, 3), Fault(1, 2), Fault(1, -2)], [Lift([0, 3])])
        self.check(1, [Fault(0, 3), Tilt(9)], [Lift([3])])
        self.check(1, [Tilt(9), Fault(0, 3)], [Fault(0, 3)])

    def test_rule_3_lays_of_one_rock(self):
        for span in [None, (0, 1), (1, 1)]:
            for levels in [(1, 2), (2, 1), (2, 2)]:
                self.check(3, [Lay("a", level, span=span) for level in levels], [Lay("a", 2, span=span)])

    def test_rule_4_lays_of_two_rocks(self):
        for span in [None, (0, 1), (1, 1)]:
            for level in [2, 1, -GREAT]:
                self.check(3, [Lay("a", 2, span=span), Lay("b", level, span=span)], [Lay("a", 2, span=span)])
            events = [Lay("a", 2, span=span), Lay("b", 3, span=span)]
            self.check(3, events, events)

    def test_rule_5_cuts(self):
        for span in [None, (0, 1), (1, 1)]:
            for name in "xy":
                one = Cut("x", 2, span=span)
                self.check(3, [one, Cut(name, 3, span=span)], [one])
                self.check(3, [one, Cut(name, 2, span=span)], [Cut(name, 2, span=span)])
                self.check(3, [one, Cut(name, 1, span=span)], [Cut(name, 1, span=span)])

    def test_rule_6_a_lay_and_a_cut(self):
        for span in [None, (0, 1), (1, 1)]:
            cut = Cut("a", 2, span=span)
            self.check(3, [Lay("a", 3, span=span), cut], [Lay("a", 2, span=span), cut])
            self.check(3, [Lay("a", GREAT, span=span), cut], [Lay("a", 2, span=span), cut])
            for level in [2, 1]:
                events = [Lay("a", level, span=span), cut]
                self.check(3, events, events)
            events = [cut, Lay("a", 3, span=span)]
            self.check(3, events, events)

    def test_unlike_spans(self):
        spans = [None, (0, 0), (0, 1), (0, 2), (1, 2)]
        for one in spans:
            for other in spans:
                if one != other:
                    for pair in [[Lay("a", 1, span=one), Lay("a", 2, span=other)],
                                 [Lay("a", 2, span=one), Lay("b", 1, span=other)],
                                 [Cut("a", 2, span=one), Cut("a", 1, span=other)],
                                 [Cut("a", 2, span=one), Cut("b", 3, span=other)],
                                 [Lay("a", 2, span=one), Cut("b", 1, span=other)]]:
                        self.check(3, pair, pair)

    def test_events_that_become_neighbours(self):
        self.check(2, [Lay("a", 1), Tilt(0), Lay("a", 2)], [Lay("a", 2)])
        self.check(2, [Cut("x", 1), Fault(1, 1), Fault(1, -1), Cut("y", 2)], [Cut("x", 1)])
        self.check(2, [Lay("a", 9), Lay("b", 8), Lay("a", 10), Cut("x", 3), Cut("y", 5), Cut("z", 1)],
                   [Lay("a", 1), Cut("z", 1)])
        self.check(2, [Lay("a", 1), Lay("b", 5), Cut("x", 1)], [Lay("a", 1), Cut("x", 1)])
        self.check(2, [Lay("a", 2), Lay("b", 5), Cut("x", 1)], [Lay("a", 1), Cut("x", 1)])
        self.check(2, [Lay("a", 5), Lay("b", 4, span=(0, 1)), Lay("b", 3)],
                   [Lay("a", 5), Lay("b", 4, span=(0, 1)), Lay("b", 3)])

    def test_sixty_events(self):
        self.check(2, [Fault(1, 1)] * 60, [Lift([0, 60])])
        self.check(2, [Lay("a", level) for level in range(60)], [Lay("a", 59)])
        events = [Lay("a", 1), Tilt(1)] * 30
        self.check(2, events, events)

    def test_the_same_effect(self):
        numbers = Numbers(51)
        for _ in range(400):
            width = numbers.between(1, 4)
            history = History(*[some_event(numbers, width) for _ in range(numbers.below(16))])
            short = tidied(history, width=width)
            self.assertIsInstance(short, History)
            self.assertLessEqual(len(short), len(history))
            self.equal(tidied(short, width=width), short)
            for _ in range(5):
                section = some_section(numbers, width)
                self.equal(short(section), history(section))
