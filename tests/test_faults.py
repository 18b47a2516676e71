"""Lifts as a Lift of all columns and Faults, and sums of Lifts. [19]"""

from rockbeds.errors import InvalidEvent, NoColumn, WrongWidth
from rockbeds.events import Cut, Dike, Fault, History, Lay, Lift, Tilt
from rockbeds.faults import as_faults, summed
from rockbeds.sections import Section
from tests.case import GREAT, Case, any_values
from tests.cells import Numbers

NO_WIDTHS = [value for value in any_values() if type(value) is not int or not 1 <= value <= 12] + [-1, 13, 14]


def some_lift(numbers, width):
    kind = numbers.below(4)
    if kind == 0:
        return Fault(numbers.below(width), numbers.between(-3, 3))
    if kind == 1:
        return Tilt(numbers.between(-2, 2))
    return Lift([numbers.between(-2, 2) for _ in range(width)])


class FaultsTest(Case):

    def check(self, lift, width, by, faults):
        given = lift.text()
        result = as_faults(lift, width=width)
        self.assertIs(type(result), tuple)
        self.assertIs(type(result[1]), list)
        self.same((result[0], [fault.text() for fault in result[1]]), (by, [fault.text() for fault in faults]))
        self.assertEqual(result[1], faults)
        self.assertEqual(as_faults(width=width, lift=lift), (by, faults))
        self.same(lift.text(), given)

    def test_lifts(self):
        self.check(Lift([0]), 1, 0, [])
        self.check(Lift([-7]), 1, -7, [])
        self.check(Lift([3, 3, 3]), 3, 3, [])
        self.check(Lift([0, 3, 3, 1]), 4, 0, [Fault(1, 3), Fault(3, -2)])
        self.check(Lift([5, 0, 0, GREAT]), 4, 5, [Fault(1, -5), Fault(3, GREAT)])

    def test_faults_and_tilts(self):
        self.check(Fault(0, 3), 3, 3, [])
        self.check(Fault(2, 3), 3, 0, [Fault(2, 3)])
        self.check(Fault(11, -GREAT), 12, 0, [Fault(11, -GREAT)])
        self.check(Fault(1, 0), 3, 0, [])
        self.check(Tilt(2), 4, 0, [Fault(1, 2), Fault(2, 2), Fault(3, 2)])
        self.check(Tilt(2), 1, 0, [])
        self.check(Tilt(0), 12, 0, [])

    def test_together_they_lift_as_the_lift_does_and_fewer_cannot(self):
        numbers = Numbers(501)
        for _ in range(200):
            width = numbers.between(1, 12)
            lift = some_lift(numbers, width)
            by, faults = as_faults(lift, width=width)
            lifts = lift.on(width)
            self.same(by, lifts[0])
            self.assertEqual([fault.at for fault in faults],
                             [at for at in range(1, width) if lifts[at] != lifts[at - 1]])
            history = History(Lift([by] * width), *faults)
            self.equal(history(Section.flat(width)), lift(Section.flat(width)))
            self.equal(summed(Lift([by] * width), *faults, width=width), Lift(lifts))

    def test_refused(self):
        for lift in [Lift([1, 2, 3]), Fault(3, 1), Tilt(1)]:
            for width in NO_WIDTHS:
                self.refused(WrongWidth(width), as_faults, lift, width=width)
        self.refused(WrongWidth(2), as_faults, Lift([1, 2, 3]), width=2)
        self.refused(WrongWidth(4), as_faults, Lift([1, 2, 3]), width=4)
        self.refused(NoColumn(3), as_faults, Fault(3, 1), width=3)
        self.assertRaises(TypeError, as_faults, Tilt(1), 3)

    def test_results_are_new(self):
        lift = Lift([0, 1])
        as_faults(lift, width=2)[1].clear()
        self.assertEqual(as_faults(lift, width=2), (0, [Fault(1, 1)]))


class SummedTest(Case):

    def test_without_arguments(self):
        for width in range(1, 13):
            self.equal(summed(width=width), Lift([0] * width))

    def test_one_to_many_of_all_kinds(self):
        self.equal(summed(Lift([1, 2]), width=2), Lift([1, 2]))
        self.equal(summed(Fault(1, 3), width=2), Lift([0, 3]))
        self.equal(summed(Tilt(3), width=3), Lift([0, 3, 6]))
        self.equal(summed(Lift([1, 2, 3]), Fault(1, 10), Tilt(100), width=3), Lift([1, 112, 213]))
        self.equal(summed(Fault(1, GREAT), Fault(1, -GREAT), width=2), Lift([0, 0]))
        self.equal(summed(*[Tilt(1)] * 100, width=12), Lift([100 * at for at in range(12)]))

    def test_any_lifts(self):
        numbers = Numbers(511)
        for _ in range(100):
            width = numbers.between(1, 12)
            lifts = [some_lift(numbers, width) for _ in range(numbers.below(6))]
            total = summed(*lifts, width=width)
            self.assertIs(type(total), Lift)
            self.equal(total(Section.flat(width)), History(*lifts)(Section.flat(width)))
            self.equal(summed(*lifts[::-1], width=width), total)
            self.equal(summed(*lifts, *[-lift for lift in lifts], width=width), Lift([0] * width))

    def test_refused(self):
        wrong = any_values() + [Lay("a", 1), Cut("a", 1), Dike("a", 0, 1), History(), History(Tilt(1))]
        for value in wrong:
            for width in NO_WIDTHS:
                self.refused(WrongWidth(width), summed, value, width=width)
                self.refused(WrongWidth(width), summed, width=width)
            self.refused(InvalidEvent(value), summed, value, width=3)
            self.refused(InvalidEvent(value), summed, Lift([1]), Tilt(1), value, None, width=3)
        self.refused(WrongWidth(3), summed, Tilt(1), Lift([1]), Fault(3, 1), width=3)
        self.refused(NoColumn(3), summed, Tilt(1), Fault(3, 1), Lift([1]), Fault(4, 1), width=3)
        self.assertRaises(TypeError, summed, Tilt(1))
