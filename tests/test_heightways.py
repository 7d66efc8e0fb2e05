"""Points 60 and 61: changes of one height and their events."""

from fractions import Fraction
from functools import lru_cache
from itertools import combinations

from everybowl.bowls import Bowl
from everybowl.errors import NoPoint, OnPlane, TooFar
from everybowl.floors import Floor
from everybowl.floorways import Event, FloorEvent
from everybowl.heightways import HeightEvent, height_events, lifted
from everybowl.planerows import high_row, plane_row
from everybowl.raised import Raised
from everybowl.ratios import Ratio
from tests.heights import (
    DEEP, HIGH, HUGE, bowl_heights, extreme_raised, fraction, is_general, many_bowls, many_raised, places_of, rise,
    slopes,
)
from tests.helpers import ROUND, SAMPLE, Case, all_floors, lies_within, scattered


def with_height(raised, number, height):
    return [height if k == number else z for k, z in enumerate(raised.heights)]


def height_over(raised, three, number):
    """The height of the plane of a triangle above a point."""
    alpha, beta, gamma = slopes(places_of(raised), *three)
    x, y = raised.floor.points[number]
    return alpha * x + beta * y + gamma


def drawn_lifts(raised, seed):
    """Changes of heights: near and far ones, up and down, none at all, and one of equal steps around the planes."""
    source, n = scattered(seed), len(raised)
    high = max(map(abs, raised.heights)) + 1
    found = [(seed % n, raised.heights[seed % n])]
    for wide in (high, min(3 * high, HIGH), HIGH):
        found += [(next(source) % n, next(source) * 2 ** 31 % (2 * wide + 1) - wide) for _ in range(2)]
    number = next(source) % n
    found += [(number, HIGH - next(source)), (number, next(source) - HIGH)]
    return [lift for lift in found if is_general(raised.floor, with_height(raised, *lift))]


@lru_cache(maxsize=None)
def many_lifts():
    found = [*many_raised()[::3], *many_bowls()[::4], *extreme_raised()[::4]]
    return [(raised, *lift) for k, raised in enumerate(found) for lift in drawn_lifts(raised, k)]


def events_told(raised, number, height):
    """What the events are, told by fractions: (time, triangle, inner, level, rising)."""
    start, found = raised.heights[number], []
    places = places_of(raised)
    for three in combinations([k for k in range(len(raised)) if k != number], 3):
        plane = height_over(raised, three, number)
        if min(start, height) < plane < max(start, height):
            level = len([d for d in range(len(raised)) if d not in (number, *three) and rise(places, *three, d) < 0])
            four = sorted([number, *three])
            inner = [d for d in four if lies_within(raised.floor, [k for k in four if k != d], d)]
            found.append(((plane - start) / Fraction(height - start), three, inner[0] if inner else None, level,
                          height > start))
    return sorted(found, key=lambda told: told[:2])


def parts(event):
    return (fraction(event.time), event.triangle, event.inner, event.level, event.rising)


def added(rows, length):
    return [sum(column) for column in zip([0] * length, *rows)]


def difference(after, before):
    return [last - first for last, first in zip(after, before)]


class Lifted(Case):
    def test_new_height(self):
        for raised, number, height in many_lifts():
            got = lifted(raised, number, height)
            self.assertIs(got.__class__, Raised)
            self.same([got.heights, got.floor == raised.floor], [tuple(with_height(raised, number, height)), True])

    def test_plain_also_for_a_bowl(self):
        bowl = Bowl.circular(Floor(SAMPLE))
        self.assertIs(lifted(bowl, 3, 2).__class__, Raised)
        self.same(lifted(bowl, 3, 2) == bowl, True)
        # With this height it would be no bowl.
        self.same([lifted(bowl, 3, 99).heights, lifted(bowl, 3, HIGH).heights[3], lifted(bowl, 3, -HIGH).heights[3]],
                  [(0, 16, 16, 99), HIGH, -HIGH])


class Events(Case):
    def test_every_part(self):
        inner = {None: 0, True: 0, False: 0}
        for raised, number, height in many_lifts():
            got, wanted = height_events(raised, number, height), events_told(raised, number, height)
            self.same([event.__class__ for event in got], [HeightEvent] * len(wanted))
            self.same([parts(event) for event in got], wanted)
            for event in got:
                self.same([event.time.__class__, event.size], [Ratio, len(raised)])
                self.assertTrue(isinstance(event, Event) and not isinstance(event, FloorEvent))
                self.assertTrue(0 < event.time.top < event.time.bottom)
                inner[None if event.inner is None else event.inner == number] += 1
        self.assertTrue(min(inner.values()) > 50)

    def test_at_one_time(self):
        """Two planes that are equally high above point 0."""
        seen = 0
        for k, floor in enumerate([floor for floor in all_floors() if len(floor) > 6 and max(floor[1]) < 1000]):
            source, (x, y) = scattered(k), floor[0]
            slopes_of = [[next(source) % 19 - 9 for _ in "xy"] for _ in "ab"]
            heights = [40 + next(source) % 9]
            for at, (px, py) in enumerate(list(floor)[1:]):
                alpha, beta = slopes_of[at % 2]
                heights.append(alpha * (px - x) + beta * (py - y) + (next(source) % 99 if at > 5 else 0))
            if is_general(floor, heights) and is_general(floor, [-heights[0], *heights[1:]]):
                raised = Raised(floor, heights)
                got = height_events(raised, 0, -heights[0])
                self.same([parts(event) for event in got], events_told(raised, 0, -heights[0]))
                middle = [event.triangle for event in got if fraction(event.time) == Fraction(1, 2)]
                self.assertTrue((1, 3, 5) in middle and (2, 4, 6) in middle)
                seen += 1
        self.assertTrue(seen > 5, seen)

    def test_known(self):
        raised = Raised(Floor(SAMPLE), [0, 0, 0, 5])
        event = height_events(raised, 3, -5)[0]
        self.same([event.time.text(), *parts(event)[1:], event.size], ["1/2", (0, 1, 2), 3, 0, False, 4])
        # Point 0 rises over the plane of the others, of which 3 lies within: the event lowers 3.
        self.same(height_events(Raised(Floor(SAMPLE), [0, 16, 16, 9]), 0, 1), [])
        event = height_events(Raised(Floor(SAMPLE), [0, 16, 16, 9]), 0, 9)[0]
        self.same([event.time.text(), *parts(event)[1:], event.plane_change, event.high_change],
                  ["2/9", (1, 2, 3), 3, 0, True, [2, -2], [-1]])
        self.same(height_events(Raised(Floor(SAMPLE[:3]), [1, 2, 3]), 1, -99), [])

    def test_the_same_height(self):
        for raised in many_raised()[::7]:
            for number, height in enumerate(raised.heights):
                self.same(height_events(raised, number, height), [])
                self.same(lifted(raised, number, height) == raised, True)

    def test_bowls_are_taken_too(self):
        for bowl in many_bowls()[::5]:
            plain = Raised(bowl.floor, bowl.heights)
            self.same([parts(event) for event in height_events(bowl, 0, HIGH)],
                      [parts(event) for event in height_events(plain, 0, HIGH)])


class Changes(Case):
    def test_one_event(self):
        kinds = set()
        for raised, number, height in many_lifts()[::2]:
            n = len(raised)
            for event in height_events(raised, number, height):
                planes, highs, k = [0] * (n - 2), [0] * (n - 3), event.level
                if event.inner is not None:
                    step = 1 if (event.inner == number) == event.rising else -1
                    planes[k], planes[k + 1], highs[k] = -2 * step, 2 * step, step
                    kinds.add((step, event.rising))
                self.same([event.plane_change, event.high_change], [planes, highs])
                for name in ("plane_change", "high_change"):
                    getattr(event, name).append("more")
                self.same([event.plane_change, event.high_change], [planes, highs])
        self.assertEqual(len(kinds), 4)

    def test_added_up(self):
        changed = 0
        for raised, number, height in many_lifts():
            n, after = len(raised), lifted(raised, number, height)
            events = height_events(raised, number, height)
            planes = difference(plane_row(after), plane_row(raised))
            self.same(added([event.plane_change for event in events], n - 2), planes)
            self.same(added([event.high_change for event in events], n - 3),
                      difference(high_row(after), high_row(raised)))
            changed += any(planes)
        self.assertTrue(changed > 50)

    def test_way_back(self):
        for raised, number, height in many_lifts():
            there = height_events(raised, number, height)
            back = height_events(lifted(raised, number, height), number, raised.heights[number])
            wanted = [(1 - time, triangle, inner, level, not rising)
                      for time, triangle, inner, level, rising in map(parts, there)]
            self.same([parts(event) for event in back], sorted(wanted, key=lambda told: told[:2]))

    def test_to_the_heights_of_a_bowl(self):
        led = 0
        for k, raised in enumerate(many_raised()[::4]):
            goal, present, rows = bowl_heights(raised.floor, k), raised, []
            for number, height in enumerate(goal):
                if is_general(raised.floor, with_height(present, number, height)):
                    rows += [event.high_change for event in height_events(present, number, height)]
                    present = lifted(present, number, height)
            if present.heights == tuple(goal):
                self.same(added(rows, len(raised) - 3), [-count for count in high_row(raised)])
                led += 1
        self.assertTrue(led > 20)


class Wrong(Case):
    def test_errors_in_order(self):
        raised = Raised(Floor(SAMPLE), DEEP)
        for act in (lifted, height_events):
            for wrong in (-1, 4, HUGE, -HUGE):
                self.refuses(NoPoint(wrong), act, raised, wrong, HIGH + 1)
            for wrong in (HIGH + 1, -HIGH - 1, HUGE, -HUGE):
                self.refuses(TooFar(wrong), act, raised, 3, wrong)
            self.refuses(OnPlane((0, 1, 2, 3)), act, raised, 3, 8)
            self.refuses(OnPlane((0, 1, 2, 3)), act, raised, 0, -12)

    def test_first_four(self):
        bowl = Bowl.circular(Floor(ROUND[:6]))
        seen = 0
        for number in range(6):
            for four in combinations(range(6), 4):
                if number in four:
                    three = [k for k in four if k != number]
                    height = height_over(bowl, three, number)
                    if height.denominator == 1:
                        heights = with_height(bowl, number, int(height))
                        places = [(x, y, z) for (x, y), z in zip(bowl.floor.points, heights)]
                        first = [some for some in combinations(range(6), 4) if rise(places, *some) == 0][0]
                        self.refuses(OnPlane(first), height_events, bowl, number, int(height))
                        self.refuses(OnPlane(first), lifted, bowl, number, int(height))
                        seen += 1
        self.assertTrue(seen > 5)
