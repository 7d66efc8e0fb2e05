"""Points 58, 59 and 61: travels of a point and their events."""

from fractions import Fraction
from functools import lru_cache
from itertools import combinations
from math import lcm

from everybowl.errors import Meets, NoPoint, OnLine, TooFar
from everybowl.floors import Floor
from everybowl.floorways import Event, FloorEvent, floor_events, travelled
from everybowl.fours import convex_fours
from everybowl.hub import Rows
from everybowl.linerows import line_row
from everybowl.ratios import Ratio
from tests.heights import HUGE, fraction, sign
from tests.helpers import FAR, NESTED, ROUND, SAMPLE, WIDE, Case, all_floors, doubled, scattered


def is_floor(points):
    return all(doubled(*three) for three in combinations(points, 3))


def at_time(floor, number, goal, time):
    """The places of all points at a time."""
    return [tuple([first + time * (last - first) for first, last in zip(point, goal)]) if k == number else point
            for k, point in enumerate(floor.points)]


def meets(floor, number, goal):
    """The point that the moving one meets, or None."""
    start = floor.points[number]
    for k, place in enumerate(floor.points):
        if k != number and start != goal and doubled(start, goal, place) == 0:
            part = [Fraction(p - a, b - a) for p, a, b in zip(place, start, goal) if a != b][0]
            if 0 < part < 1:
                return k
    return None


def through_crossing(floor, source):
    """A travel through the place where two lines cross, so that two events have the same time, or None."""
    a, b, c, d, number = sorted(range(len(floor)), key=lambda _: next(source))[:5]
    p, q, r, s = [floor.points[k] for k in (a, b, c, d)]
    way, other = (q[0] - p[0], q[1] - p[1]), (s[0] - r[0], s[1] - r[1])
    cross = way[0] * other[1] - way[1] * other[0]
    if cross == 0:
        return None
    part = Fraction((r[0] - p[0]) * other[1] - (r[1] - p[1]) * other[0], cross)
    place = (p[0] + part * way[0], p[1] + part * way[1])
    times = 2 * lcm(place[0].denominator, place[1].denominator)
    return number, tuple([int(first + times * (last - first)) for first, last in zip(floor.points[number], place)])


def drawn_travels(floor, seed):
    """Travels at will, far ones, one to the same place, and some through crossings of two lines."""
    source, n = scattered(seed), len(floor)
    far = max(abs(part) for point in floor.points for part in point)
    found = [(seed % n, floor.points[seed % n])]
    for wide in (far, 2 * far + 3, FAR):
        for _ in range(2):
            found.append((next(source) % n, tuple([next(source) * 2 ** 31 % (2 * wide + 1) - wide for _ in "xy"])))
    found += [through_crossing(floor, source) for _ in range(8 if n > 4 else 0)]
    return [travel for travel in found if travel and max(map(abs, travel[1])) <= FAR
            and is_floor(at_time(floor, *travel, 1)) and meets(floor, *travel) is None]


@lru_cache(maxsize=None)
def many_travels():
    return [(floor, *travel) for k, floor in enumerate(all_floors()) for travel in drawn_travels(floor, k)]


def events_told(floor, number, goal):
    """What the events are, told by fractions: (time, middle, ends, left, right, to_right)."""
    moments = []
    for b, c in combinations([k for k in range(len(floor)) if k != number], 2):
        before, after = [doubled(place, floor.points[b], floor.points[c]) for place in (floor.points[number], goal)]
        if before * after < 0:
            moments.append((Fraction(before, before - after), (b, c)))
    times = sorted({Fraction(0), *[time for time, _ in moments]})
    found = []
    for time, pair in sorted(moments):
        places, three = at_time(floor, number, goal, time), (number, *pair)
        middle = sorted(three, key=places.__getitem__)[1]
        ends = tuple(sorted([k for k in three if k != middle]))
        sides = [sign(doubled(places[ends[0]], places[ends[1]], places[k])) for k in range(len(floor))
                 if k not in three]
        earlier = at_time(floor, number, goal, (time + times[times.index(time) - 1]) / 2)
        to_right = doubled(earlier[ends[0]], earlier[ends[1]], earlier[middle]) > 0
        found.append((time, middle, ends, sides.count(1), sides.count(-1), to_right))
    return found


def parts(event):
    return (fraction(event.time), event.middle, event.ends, event.left, event.right, event.to_right)


def added(rows, length):
    return [sum(column) for column in zip([0] * length, *rows)]


def difference(after, before):
    return [last - first for last, first in zip(after, before)]


class Travelled(Case):
    def test_floor_at_the_end(self):
        for floor, number, goal in many_travels():
            got = travelled(floor, number, *goal)
            self.assertIs(got.__class__, Floor)
            self.same(got.points, tuple(at_time(floor, number, goal, 1)))

    def test_over_another_point(self):
        floor = Floor([(0, 0), (4, 0), (0, 4), (1, 2)])
        self.same(travelled(floor, 0, 3, 6).points, ((3, 6), (4, 0), (0, 4), (1, 2)))
        self.refuses(Meets(3), floor_events, floor, 0, 3, 6)


class Events(Case):
    def test_every_part(self):
        at_once = inner = 0
        for floor, number, goal in many_travels():
            got, wanted = floor_events(floor, number, *goal), events_told(floor, number, goal)
            self.same([event.__class__ for event in got], [FloorEvent] * len(wanted))
            self.same([parts(event) for event in got], wanted)
            for event in got:
                self.same([event.time.__class__, event.size], [Ratio, len(floor)])
                self.assertTrue(isinstance(event, Event) and 0 < event.time.top < event.time.bottom)
                self.assertEqual(event.left + event.right, len(floor) - 3)
                inner += event.middle != number
            times = [fraction(event.time) for event in got]
            at_once += len(times) - len(set(times))
        self.assertTrue(at_once > 30 and inner > 100)

    def test_known(self):
        # Point 0 moves over the line of 1 and 2, which has point 3 on its right, and then over that of 2 and 3.
        floor = Floor([(0, 0), (4, 0), (0, 4), (9, 1)])
        events = floor_events(floor, 0, 3, 4)
        self.same([(event.time.text(), *parts(event)[1:]) for event in events],
                  [("4/7", 0, (1, 2), 0, 1, True), ("4/5", 0, (2, 3), 0, 1, False)])
        self.same([events[0].line_change, events[0].fours_change, events[0].plane_change], [[-1, 2, -1], -1, [1, -1]])
        self.same(floor_events(floor, 0, 0, 0), [])
        three = floor_events(Floor(SAMPLE[:3]), 0, 5, 5)[0]
        self.same([three.line_change, three.fours_change, three.plane_change, three.left, three.right],
                  [[0, 0], 0, [0], 0, 0])

    def test_same_place(self):
        for floor in all_floors()[::4]:
            for number, point in enumerate(floor):
                self.same(floor_events(floor, number, *point), [])
                self.same(travelled(floor, number, *point) == floor, True)

    def test_ends_of_the_range(self):
        for points in (WIDE, WIDE[::-1]):
            floor = Floor(points)
            for number, goal in ((0, (FAR, 7)), (2, (-FAR, FAR - 5)), (5, (FAR - 3, -FAR)), (9, (-FAR, 1))):
                if is_floor(at_time(floor, number, goal, 1)) and meets(floor, number, goal) is None:
                    got = floor_events(floor, number, *goal)
                    self.same([parts(event) for event in got], events_told(floor, number, goal))
                    self.assertTrue(got != [])


class Changes(Case):
    def test_one_event(self):
        for floor, number, goal in many_travels()[::3]:
            n = len(floor)
            for event in floor_events(floor, number, *goal):
                left, right = (event.left, event.right) if event.to_right else (event.right, event.left)
                lines, planes = [0] * (n - 1), [0] * (n - 2)
                for place, step in ((left, -1), (left + 1, 1), (right, 1), (right + 1, -1)):
                    lines[place] += step
                for place, step in ((left, 1), (right, -1)):
                    planes[place] += step
                self.same([event.line_change, event.fours_change, event.plane_change], [lines, left - right, planes])
                if event.left == event.right:
                    self.assertFalse(any([*lines, left - right, *planes]))
                for name in ("line_change", "plane_change"):
                    getattr(event, name).append("more")
                self.same([event.line_change, event.plane_change], [lines, planes])

    def test_added_up(self):
        changed = 0
        for floor, number, goal in many_travels():
            n, after = len(floor), travelled(floor, number, *goal)
            events = floor_events(floor, number, *goal)
            lines = difference(line_row(after), line_row(floor))
            self.same(added([event.line_change for event in events], n - 1), lines)
            self.same(sum([event.fours_change for event in events]), convex_fours(after) - convex_fours(floor))
            self.same(added([event.plane_change for event in events], n - 2),
                      difference(Rows.of(after)("planes"), Rows.of(floor)("planes")))
            changed += any(lines)
        self.assertTrue(changed > 50)

    def test_travel_back(self):
        for floor, number, goal in many_travels():
            there = floor_events(floor, number, *goal)
            back = floor_events(travelled(floor, number, *goal), number, *floor[number])
            wanted = [(1 - time, (middle, *ends), left, right, not to_right)
                      for time, middle, ends, left, right, to_right in map(parts, there)]
            # At equal times the pairs of the others ascend, there and back.
            order = sorted(wanted, key=lambda told: (told[0], sorted(set(told[1]) - {number})))
            self.same([(time, (middle, *ends), left, right, to_right)
                       for time, middle, ends, left, right, to_right in map(parts, back)], order)


class Wrong(Case):
    def test_errors_in_order(self):
        floor = Floor([(0, 0), (4, 0), (0, 4), (1, 2), (-5, 7)])
        for act in (travelled, floor_events):
            for wrong in (-1, 5, HUGE, -HUGE):
                self.refuses(NoPoint(wrong), act, floor, wrong, FAR + 1, FAR + 1)
            for wrong in (FAR + 1, -FAR - 1, HUGE, -HUGE):
                self.refuses(TooFar(wrong), act, floor, 0, wrong, -FAR - 2)
                self.refuses(TooFar(wrong), act, floor, 0, 2, wrong)
            # The end is on the line of 1 and 2, also where point 3 is met before.
            self.refuses(OnLine((0, 1, 2)), act, floor, 0, 2, 2)
            self.refuses(OnLine((0, 2, 3)), act, floor, 0, 2, 0)
            self.refuses(OnLine((0, 1, 2)), act, floor, 0, 4, 0)
            self.refuses(OnLine((0, 1, 3)), act, floor, 3, 2, 0)
            self.refuses(OnLine((0, 1, 3)), act, floor, 3, 0, 0)
            self.refuses(OnLine((0, 2, 4)), act, floor, 4, 0, -3)

    def test_meets(self):
        seen = 0
        for floor in all_floors():
            for number in range(0, len(floor), 2):
                for other in range(len(floor)):
                    for times in (2, 3):
                        start, place = floor.points[number], floor.points[other]
                        goal = tuple([a + times * (b - a) for a, b in zip(start, place)])
                        if number != other and max(map(abs, goal)) <= FAR and is_floor(at_time(floor, number, goal, 1)):
                            self.refuses(Meets(other), floor_events, floor, number, *goal)
                            self.same(travelled(floor, number, *goal).points[number], goal)
                            seen += 1
        self.assertTrue(seen > 100)

    def test_on_line_comes_before_meets(self):
        # From (0, 0) over (1, 2) to (2, 4), which is on the line of the points 2 and 4.
        floor = Floor([(0, 0), (4, 0), (0, 4), (1, 2), (5, 4)])
        for act in (travelled, floor_events):
            self.refuses(OnLine((0, 2, 4)), act, floor, 0, 2, 4)
        self.refuses(Meets(3), floor_events, floor, 0, 3, 6)

    def test_points_beyond_the_ends_are_not_met(self):
        # Point 3 is on the line of the travel, behind its end or before its start.
        floor = Floor([(0, 0), (4, 0), (0, 4), (6, 12)])
        self.same([parts(event)[1:3] for event in floor_events(floor, 0, 1, 2)], [])
        self.same([event.middle for event in floor_events(floor, 0, 2, 4)], [0])
        floor = Floor([(2, 4), (4, 0), (0, 5), (1, 2)])
        self.same(floor_events(floor, 0, 3, 6), [])

    def test_ends_of_the_range_may_be_reached(self):
        floor = Floor(SAMPLE)
        for goal in ((FAR, -FAR), (-FAR, FAR - 2), (3 - FAR, -FAR)):
            self.same(travelled(floor, 3, *goal).points[3], goal)


class OfEvents(Case):
    def test_classes(self):
        event = floor_events(Floor(SAMPLE), 3, 3, 3)[0]
        self.assertTrue(isinstance(event, Event) and isinstance(event, FloorEvent))
        self.same([event.time.text(), event.size], ["1/2", 4])
        self.assertTrue(issubclass(FloorEvent, Event))

    def test_new_each_time(self):
        self.same(len(floor_events(Floor(NESTED), 0, 99, 98)), len(events_told(Floor(NESTED), 0, (99, 98))))
        floor = Floor(ROUND[:4])
        first = floor_events(floor, 0, 2, 7)
        first.append("more")
        self.same([parts(event) for event in floor_events(floor, 0, 2, 7)], events_told(floor, 0, (2, 7)))
