"""What events do to sections."""

from rockbeds.columns import Column
from rockbeds.errors import NoColumn, WrongWidth
from rockbeds.events import Cut, Dike, Fault, History, Lay, Lift, Tilt
from rockbeds.sections import Section
from tests.case import GREAT, Case
from tests.cells import Ground, Numbers, some_event, some_section

THREE = "0 clay:4 sand:2~storm\n3#basalt~gale sand:1\n-5 clay:3~tide clay:1"


def three():
    return Section.read(THREE)


class LayTest(Case):

    def test_at_a_contact_below_and_above_it(self):
        for level, text in [
                (-1, THREE),
                (0, "0 clay:4 sand:2~storm\n3#basalt~gale sand:1\n-5 clay:3~tide clay:1 chalk:1"),
                (4, "0 clay:4 sand:2~storm\n3#basalt~gale sand:1\n-5 clay:3~tide clay:1 chalk:5"),
                (5, "0 clay:4 sand:2~storm\n3#basalt~gale sand:1 chalk:1\n-5 clay:3~tide clay:1 chalk:6"),
                (6, "0 clay:4 sand:2~storm\n3#basalt~gale sand:1 chalk:2\n-5 clay:3~tide clay:1 chalk:7"),
                (7, "0 clay:4 sand:2~storm chalk:1\n3#basalt~gale sand:1 chalk:3\n-5 clay:3~tide clay:1 chalk:8")]:
            self.same(Lay("chalk", level)(three()).text(), text)

    def test_of_the_uppermost_rock(self):
        self.same(Lay("sand", 7)(three()).text(),
                  "0 clay:4 sand:2~storm sand:1\n3#basalt~gale sand:4\n-5 clay:3~tide clay:1 sand:8")
        self.same(Lay("clay", 5)(three()).text(),
                  "0 clay:4 sand:2~storm\n3#basalt~gale sand:1 clay:1\n-5 clay:3~tide clay:7")
        self.same(Lay("basalt", 4)(Section.read("3#basalt")).text(), "3#basalt basalt:1")

    def test_far_below_and_far_above(self):
        self.equal(Lay("clay", -GREAT)(three()), three())
        self.same(Lay("chalk", GREAT)(three()).amounts()["chalk"], 3 * GREAT - 6 - 4 + 1)

    def test_the_document(self):
        self.same((Lay("clay", 4) + Fault(1, 3) + Cut("storm", 5))(Section.flat(2)).text(),
                  "0 clay:4\n3 clay:2~storm")
        self.same((Lay("clay", 4) + Fault(1, 3) + Cut("storm", 5)).ledger(Section.flat(2)),
                  [{"clay": 8}, {}, {"clay": -2}])
        self.same(Dike("basalt", 0, 2)(Section.read("0 clay:4~storm")).text(), "2#basalt")


class CutTest(Case):

    def test_at_a_contact_below_and_above_it(self):
        for level, text in [
                (7, THREE),
                (6, "0 clay:4 sand:2~new\n3#basalt~gale sand:1\n-5 clay:3~tide clay:1"),
                (5, "0 clay:4 sand:1~new\n3#basalt~gale sand:1\n-5 clay:3~tide clay:1"),
                (4, "0 clay:4~new\n3#basalt~gale sand:1~new\n-5 clay:3~tide clay:1"),
                (3, "0 clay:3~new\n3#basalt~new\n-5 clay:3~tide clay:1"),
                (2, "0 clay:2~new\n2#basalt~new\n-5 clay:3~tide clay:1"),
                (0, "0~new\n0#basalt~new\n-5 clay:3~tide clay:1"),
                (-1, "-1~new\n-1#basalt~new\n-5 clay:3~tide clay:1~new"),
                (-2, "-2~new\n-2#basalt~new\n-5 clay:3~new"),
                (-3, "-3~new\n-3#basalt~new\n-5 clay:2~new"),
                (-5, "-5~new\n-5#basalt~new\n-5~new"),
                (-6, "-6~new\n-6#basalt~new\n-6~new")]:
            self.same(Cut("new", level)(three()).text(), text)

    def test_far_below_and_far_above(self):
        self.equal(Cut("new", GREAT)(three()), three())
        self.same(Cut("new", -GREAT)(three()).tops, (-GREAT,) * 3)


class DikeTest(Case):

    def test_in_each_column(self):
        rows = THREE.split("\n")
        for at in range(3):
            for level in [-GREAT, -6, 0, 3, 20]:
                wanted = rows[:at] + [str(level) + "#gabbro"] + rows[at + 1:]
                self.same(Dike("gabbro", at, level)(three()).text(), "\n".join(wanted))


class LiftTest(Case):

    def test_each_kind(self):
        def feet(event):
            return [column.foot for column in event(three()).columns]

        self.assertEqual(feet(Lift([1, -2, 0])), [1, 1, -5])
        self.assertEqual(feet(Fault(1, 10)), [0, 13, 5])
        self.assertEqual(feet(Fault(0, -10)), [-10, -7, -15])
        self.assertEqual(feet(Tilt(10)), [0, 13, 15])
        self.assertEqual(feet(Tilt(-GREAT)), [0, 3 - GREAT, -5 - 2 * GREAT])
        self.same(Fault(2, 5)(three()).text(), THREE.replace("-5", "0"))


class SpanTest(Case):

    def test_each_span_of_each_width(self):
        for width in range(1, 13):
            for first in range(12):
                for last in range(first, 12):
                    for event, bare in [(Lay("clay", 2, span=(first, last)), "0"),
                                        (Cut("storm", -1, span=(first, last)), "0")]:
                        if last >= width:
                            self.refused(NoColumn(last), event, Section.flat(width))
                            continue
                        changed = "0 clay:2" if isinstance(event, Lay) else "-1~storm"
                        wanted = [changed if first <= at <= last else bare for at in range(width)]
                        self.same(event(Section.flat(width)).text(), "\n".join(wanted))

    def test_a_span_whose_first_column_is_missing_too(self):
        self.refused(NoColumn(7), Lay("clay", 2, span=(5, 7)), Section.flat(3))
        self.refused(NoColumn(7), Cut("clay", 2, span=(5, 7)), Section.flat(3))


class MissingTest(Case):

    def test_columns_and_widths(self):
        for width in range(1, 13):
            section = Section.flat(width)
            for at in range(12):
                for event in [Dike("basalt", at, 3), Fault(at, 3)]:
                    if at < width:
                        self.assertEqual(len(event(section)), width)
                    else:
                        self.refused(NoColumn(at), event, section)
            for count in range(1, 13):
                if count == width:
                    self.same(Lift([2] * count)(section).tops, (2,) * width)
                else:
                    self.refused(WrongWidth(width), Lift([2] * count), section)


class AnyEventTest(Case):

    def test_long_histories_level_by_level(self):
        numbers = Numbers()
        for round_ in range(300):
            width = 1 + round_ % 12
            ground, section, events = Ground(width), Section.flat(width), []
            for _ in range(12):
                event = some_event(numbers, width)
                before = section.text()
                ground.do(event)
                after = event(section)
                self.same(section.text(), before)
                self.equal(after, ground.section())
                self.equal(event(section=section), after)
                section = after
                events.append(event)
            self.equal(History(*events)(Section.flat(width)), section)
            self.equal(Section(section.columns), section)

    def test_the_section_stays_and_the_result_is_new(self):
        for event in [Lay("chalk", 0), Lay("chalk", -9), Cut("new", 2), Cut("new", 90), Dike("a", 1, 2), Lift([0] * 3),
                      Fault(1, 0), Tilt(0), Tilt(2), History(), History(Lay("chalk", 0))]:
            section = three()
            self.equal(event(section), event(section))
            self.same(section.text(), THREE)

    def test_at_great_levels(self):
        numbers = Numbers(7)
        for _ in range(100):
            width = numbers.between(1, 4)
            section, event = some_section(numbers, width), some_event(numbers, width)
            risen = Section([column.lifted(GREAT) for column in section.columns])
            great = event
            if isinstance(event, (Lay, Cut)):
                great = type(event)(event.item[1], event.level + GREAT, span=event.span)
            elif isinstance(event, Dike):
                great = Dike(event.item[1], event.at, event.level + GREAT)
            wanted = Section([column.lifted(GREAT) for column in event(section).columns])
            self.equal(great(risen), wanted)

    def test_thick_beds(self):
        section = (Lay("a", GREAT) + Fault(0, -GREAT) + Cut("x", -1) + Lay("a", 5))(Section.flat(1))
        self.equal(section, Section([Column(-GREAT, [("a", GREAT - 1, "x"), ("a", 6, None)])]))
