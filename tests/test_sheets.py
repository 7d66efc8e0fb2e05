"""Point 72: sheets."""

from everybowl.floors import Floor
from everybowl.floorways import floor_events
from everybowl.heightways import height_events
from everybowl.hub import Rows
from everybowl.raised import Raised
from everybowl.ratios import Ratio
from everybowl.sheets import event_sheet, row_sheet
from tests.heights import many_raised
from tests.helpers import FAR, ROUND, SAMPLE, Case, all_floors


def right(text, width):
    return " " * (width - len(text)) + text


def grouped(number):
    """An integer with commas, told without a format."""
    digits, groups = str(abs(number)), []
    while digits:
        groups.insert(0, digits[-3:])
        digits = digits[:-3]
    return ("-" if number < 0 else "") + ",".join(groups)


class RowSheet(Case):
    def test_sign_by_sign(self):
        self.same(row_sheet(Rows.of(Floor(SAMPLE))), [
            "lines           3        6        3",
            "corners        12        3",
            "inner           1",
            "cuts            1        3        6        3        1",
            "planes          3        1",
            "nets            4        3",
            "lowered         1        4        6        3        1",
            "means           3        3"])

    def test_three_points(self):
        self.same(row_sheet(Rows.of(Floor(SAMPLE[:3]))), [
            "lines           3        3", "corners         3", "inner   ", "cuts            1        3        3        1",
            "planes          1", "nets            1", "lowered         1        3        3        1",
            "means           3"])

    def test_commas_and_ratios(self):
        sheet = row_sheet(Rows.of(Floor(ROUND)))
        self.same(sheet[1], "corners       360      840    1,260    1,260      840      360       90       10")
        self.same(sheet[7][:17], "means           3")

    def test_every_floor(self):
        longest = 0
        for floor in all_floors():
            rows = Rows.of(floor)
            sheet = row_sheet(rows)
            self.same([sheet.__class__, len(sheet)], [list, 8])
            for line, form in zip(sheet, Rows.FORMS):
                texts = [grouped(entry) if isinstance(entry, int) else entry.text() for entry in rows(form)]
                self.same(line, form + " " * (8 - len(form)) + "".join([right(text, 9) for text in texts]))
                longest = max([longest, *map(len, texts)])
        self.assertTrue(longest >= 5)

    def test_longer_entries_in_full(self):
        class Long:
            """Rows with entries of all lengths."""

            def __call__(self, form):
                return [Ratio(-12345678, 7), Ratio(10 ** 12)] if form == "means" else [-1234567, 9999999, -999999, 0]

        sheet = row_sheet(Long())
        self.same([sheet[0], sheet[7]], ["lines   -1,234,5679,999,999 -999,999        0",
                                         "means   -12345678/71000000000000"])

    def test_new_each_time(self):
        self.new_each_time(row_sheet, Rows.of(Floor(SAMPLE)))


class EventSheet(Case):
    def test_floor_events(self):
        floor = Floor(SAMPLE)
        self.same(event_sheet(floor_events(floor, 3, 3, 3)), ["         1/2 3 1-2 1:0 >"])
        self.same(event_sheet(floor_events(Floor([*SAMPLE[:3], (3, 3)]), 3, 1, 1)), ["         1/2 3 1-2 1:0 <"])
        self.same(event_sheet(floor_events(Floor([(0, 0), (4, 0), (0, 4), (9, 1)]), 0, 3, 4)),
                  ["         4/7 0 1-2 0:1 >", "         4/5 0 2-3 0:1 <"])

    def test_height_events(self):
        raised = Raised(Floor(SAMPLE), [0, 0, 0, 5])
        self.same(event_sheet(height_events(raised, 3, -5)), ["         1/2 0-1-2 3 0 v"])
        self.same(event_sheet(height_events(-raised, 3, 5)), ["         1/2 0-1-2 3 0 ^"])
        # Without an inner point, and with the inner point 0.
        convex = Raised(Floor([(0, 0), (4, 1), (5, 5), (0, 4)]), [0, 0, 0, 7])
        self.same(event_sheet(height_events(convex, 3, -1)), ["         7/8 0-1-2 - 0 v"])
        first = Raised(Floor([SAMPLE[k] for k in (3, 0, 1, 2)]), [5, 0, 0, 0])
        self.same(event_sheet(height_events(first, 0, -15)), ["         1/4 1-2-3 0 0 v"])

    def test_both_kinds_and_none(self):
        raised = Raised(Floor(SAMPLE), [0, 0, 0, 5])
        events = [*height_events(raised, 3, -5), *floor_events(raised.floor, 3, 3, 3)]
        self.same(event_sheet(events), ["         1/2 0-1-2 3 0 v", "         1/2 3 1-2 1:0 >"])
        self.same(event_sheet(tuple(events[::-1])), ["         1/2 3 1-2 1:0 >", "         1/2 0-1-2 3 0 v"])
        self.same([event_sheet([]), event_sheet(())], [[], []])
        self.new_each_time(event_sheet, events)
        self.same(len(events), 2)

    def test_long_times(self):
        floor = Floor([(-FAR, -FAR), (FAR, 7 - FAR), (3, FAR - 11), (FAR - 5, FAR)])
        events = floor_events(floor, 0, FAR - 3, FAR - 1)
        texts = [event.time.text() for event in events]
        self.assertTrue(max(map(len, texts)) > 12)
        for line, text, event in zip(event_sheet(events), texts, events):
            ends = f"{event.ends[0]}-{event.ends[1]}"
            sign = ">" if event.to_right else "<"
            self.same(line, f"{right(text, 12)} {event.middle} {ends} {event.left}:{event.right} {sign}")

    def test_every_height_event(self):
        seen = set()
        for raised in many_raised()[::5]:
            for number in range(len(raised)):
                try:
                    events = height_events(raised, number, -raised.heights[number] + 1)
                except ValueError:
                    continue
                for line, event in zip(event_sheet(events), events):
                    three = "-".join(map(str, event.triangle))
                    inner = "-" if event.inner is None else str(event.inner)
                    sign = "^" if event.rising else "v"
                    self.same(line, f"{right(event.time.text(), 12)} {three} {inner} {event.level} {sign}")
                    seen.add((inner, sign))
        self.assertTrue(len(seen) > 10)
