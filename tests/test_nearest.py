"""Point 52: nearest points and hoops."""

from fractions import Fraction
from itertools import combinations

from everybowl.bowls import Bowl
from everybowl.errors import Barred, NoPoint, NoSize, OnPlane, Repeated, Tied, TooFar
from everybowl.floors import Floor
from everybowl.lowered import is_lowered, lowered
from everybowl.nearest import hoop, nearest
from everybowl.prices import cheapest
from everybowl.ratios import Ratio
from everybowl.turns import ring_sign
from tests.heights import (
    BEYOND, HUGE, NINES, TOO_LONG, bars_of, drawn_ratio, first_four, fraction, is_short, long_ratios, ratio,
    subsets_of,
)
from tests.helpers import FAR, ROUND, SAMPLE, WIDE, Case, all_floors, scattered

ZERO = Ratio(0)
SQUARE = [(0, 0), (4, 0), (4, 4), (0, 4)]
# Points at the ends of the range of which no four lie on a circle.
EDGE = [(-FAR, -FAR), (FAR, -FAR), (FAR, FAR), (1 - FAR, FAR), (1, 2), (-7, 5),
        (FAR - 1, 3), (4, 1 - FAR), (2 - FAR, 11), (-9, FAR - 3)]


def first_ring(floor):
    """The first four points on a circle, or None."""
    for four in combinations(range(len(floor)), 4):
        if ring_sign(*[floor.points[k] for k in four]) == 0:
            return four
    return None


def ringless():
    """Floors of which no four points lie on a circle."""
    floors = [*all_floors(), *[Floor(EDGE[:n]) for n in range(3, 11)], Floor(EDGE[::-1])]
    return [floor for floor in floors if first_ring(floor) is None]


def squares_to(floor, x, y):
    """The squared distances."""
    return [(px - fraction(x)) ** 2 + (py - fraction(y)) ** 2 for px, py in floor.points]


def places_on(floor, seed):
    """Places at will, long ones, points, middles between two points, and some at the same distance of two and three."""
    source = scattered(seed)
    far = max(abs(part) for point in floor.points for part in point) + 1
    found = [(drawn_ratio(source, far), drawn_ratio(source, far)) for _ in range(3)]
    found += [tuple(long_ratios(source)), (drawn_ratio(source, NINES), ratio(Fraction(1, NINES)))]
    pairs = list(combinations(floor.points, 2))
    for _ in range(3):
        (ax, ay), (bx, by) = pairs[next(source) % len(pairs)]
        step = Fraction(next(source) % 19 - 9, 7)
        found.append((Ratio(ax), Ratio(by)))
        found.append((ratio(Fraction(ax + bx, 2)), ratio(Fraction(ay + by, 2))))
        found.append((ratio(Fraction(ax + bx, 2) - step * (by - ay)), ratio(Fraction(ay + by, 2) + step * (bx - ax))))
    found += [(Ratio(x), Ratio(y)) for x, y in floor.points[:3]]
    return found


class Nearest(Case):
    def answers(self, floor, x, y, size):
        amounts = squares_to(floor, x, y)
        ranked = sorted(amounts)
        if 0 < size < len(floor) and ranked[size - 1] == ranked[size]:
            pair = [k for k, amount in enumerate(amounts) if amount == ranked[size]][:2]
            self.refuses(Tied(tuple(pair)), nearest, floor, x, y, size)
            return True
        wanted = sorted(range(len(floor)), key=amounts.__getitem__)[:size]
        self.same(nearest(floor, x, y, size), tuple(sorted(wanted)))
        return False

    def test_every_size(self):
        ties = 0
        for k, floor in enumerate([*all_floors(), Floor(SQUARE), Floor(EDGE)]):
            for x, y in places_on(floor, k):
                for size in range(len(floor) + 1):
                    ties += self.answers(floor, x, y, size)
        self.assertTrue(ties > 50)

    def test_four_on_a_circle(self):
        floor, middle = Floor([*SQUARE, (1, 2), (9, 1)]), Ratio(2)
        self.same([nearest(floor, middle, middle, size) for size in (0, 1, 5, 6)],
                  [(), (4,), (0, 1, 2, 3, 4), (0, 1, 2, 3, 4, 5)])
        for size in (2, 3, 4):
            self.refuses(Tied((0, 1)), nearest, floor, middle, middle, size)
        self.same(nearest(floor, Ratio(5, 2), Ratio(2, 3), 2), (1, 4))
        self.refuses(Tied((0, 3)), nearest, floor, Ratio(-1), middle, 2)
        self.refuses(Tied((1, 2)), nearest, floor, Ratio(4), middle, 1)

    def test_cheapest_in_the_circular_bowl(self):
        for k, floor in enumerate(ringless()[::3]):
            bowl = Bowl.circular(floor)
            for x, y in places_on(floor, k + 5)[:3]:
                for size in range(len(floor) + 1):
                    if not self.answers(floor, x, y, size):
                        subset = nearest(floor, x, y, size)
                        self.same(cheapest(bowl, 2 * x, 2 * y, size), subset)
                        self.assertTrue(is_lowered(bowl, subset))

    def test_errors_in_order(self):
        floor, far = Floor(SQUARE), Ratio(-3 * BEYOND)
        for wrong, value in TOO_LONG:
            self.refuses(TooFar(value), nearest, floor, wrong, far, -1)
            self.refuses(TooFar(value), nearest, floor, Ratio(2), wrong, -1)
        for wrong in (-1, 5, HUGE, -HUGE):
            self.refuses(NoSize(wrong), nearest, floor, Ratio(2), Ratio(2), wrong)
        self.refuses(Tied((0, 1)), nearest, floor, Ratio(2), Ratio(2), 3)
        # What is twice as long as a place may be is not looked at.
        for x, y in ((NINES, -NINES), (-NINES, NINES)):
            self.answers(floor, Ratio(x), Ratio(y, NINES - 1), 2)


class Hoop(Case):
    def encloses(self, floor, subset, given):
        got = hoop(floor, given)
        self.same([part.__class__ for part in (got, *got)], [tuple, Ratio, Ratio, Ratio])
        self.assertTrue(all(is_short(part) for r in got for part in (r.top, r.bottom)))
        x, y, square = got
        for number, amount in enumerate(squares_to(floor, x, y)):
            self.assertTrue(amount < fraction(square) if number in subset else amount > fraction(square))
        return [(r.top, r.bottom) for r in got]

    def test_every_lowered_subset(self):
        for floor in ringless()[::2]:
            bowl = Bowl.circular(floor)
            for size in range(len(floor) + 1):
                for at, subset in enumerate(lowered(bowl, size)[::1 if len(floor) < 7 else 4]):
                    given = (subset, list(subset)[::-1], [*subset[1:], *subset[:1]])[at % 3]
                    got = self.encloses(floor, subset, given)
                    if at % 3:
                        self.same([(r.top, r.bottom) for r in hoop(floor, subset)], got)

    def test_ends_of_the_range(self):
        for points in (EDGE, EDGE[::-1], EDGE[2:7]):
            floor = Floor(points)
            for size in range(len(floor) + 1):
                for subset in lowered(Bowl.circular(floor), size)[::3]:
                    self.encloses(floor, subset, subset)

    def test_empty_and_whole(self):
        for floor in ringless():
            self.encloses(floor, (), [])
            self.encloses(floor, tuple(range(len(floor))), list(range(len(floor)))[::-1])

    def test_barred(self):
        for floor in ringless()[::5]:
            bars = bars_of(Bowl.circular(floor))
            for subset in subsets_of(len(floor))[::9]:
                four = first_four(len(floor), subset, bars)
                if four is not None:
                    self.refuses(Barred(four), hoop, floor, subset[::-1])
        self.refuses(Barred((0, 1, 2, 3)), hoop, Floor(SAMPLE), [2, 0, 1])

    def test_errors_in_order(self):
        floor = Floor([(9, 1), *SQUARE])
        for wrong in (-1, 5, HUGE, -HUGE):
            self.refuses(NoPoint(wrong), hoop, floor, [3, wrong, 3])
        self.refuses(Repeated(3), hoop, floor, [3, 3, 9])
        self.refuses(Repeated(0), hoop, floor, [0, 1, 2, 3, 4, 0])
        for subset in ([], [1], [1, 3], [0, 1, 2, 3, 4]):
            self.refuses(OnPlane((1, 2, 3, 4)), hoop, floor, subset)
        for floor in all_floors():
            four = first_ring(floor)
            if four is not None:
                self.refuses(OnPlane(four), hoop, floor, [1])
        self.assertTrue(first_ring(Floor(WIDE)) == (0, 1, 2, 3))

    def test_known(self):
        # Exactly 0 and 3 of the sample are in some circle; lists that are passed stay.
        floor, given = Floor(SAMPLE), [3, 0]
        self.encloses(floor, (0, 3), given)
        self.same(given, [3, 0])
        self.encloses(Floor(ROUND[:3]), (1,), [1])
        self.assertTrue(fraction(hoop(floor, [3])[2]) > 0)
        self.same(nearest(floor, ZERO, ZERO, 2), (0, 3))
