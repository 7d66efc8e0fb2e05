"""Points 38, 41 and 42: subsets that lie under a plane."""

from itertools import combinations
from math import comb

from everybowl.bowls import Bowl
from everybowl.cuts import cut_counts, cuts
from everybowl.errors import Barred, NoPoint, NoSize, Repeated
from everybowl.floors import Floor
from everybowl.linerows import line_row
from everybowl.lowered import is_lowered, lowered, lowered_counts, plane_for
from everybowl.planerows import plane_row
from everybowl.raised import Raised
from everybowl.ratios import Ratio
from everybowl.touches import is_bowl
from tests.heights import (
    DEEP, HUGE, bars_of, extreme_raised, first_four, fraction, is_short, many_bowls, many_raised, places_of,
    small_raised, subsets_of,
)
from tests.helpers import ROUND, SAMPLE, Case


def everything():
    return [*many_raised(), *many_bowls()[::4], *extreme_raised()[::3]]


def lowered_told(raised):
    bars, n = bars_of(raised), len(raised)
    return [subset for subset in subsets_of(n) if first_four(n, subset, bars) is None]


class LoweredCase(Case):
    def plane_parts(self, raised, subset, given):
        """The plane has exactly the subset below it, all others above it, and short integers."""
        got = plane_for(raised, given)
        self.same([got.__class__, *[part.__class__ for part in got]], [tuple, Ratio, Ratio, Ratio])
        self.assertTrue(all(is_short(part.top) and is_short(part.bottom) for part in got))
        alpha, beta, gamma = [fraction(part) for part in got]
        for k, (x, y, z) in enumerate(places_of(raised)):
            height = alpha * x + beta * y + gamma
            self.assertTrue(z < height if k in subset else z > height)


class AllSubsets(LoweredCase):
    def test_of_few_points(self):
        for raised in [*small_raised(6), *extreme_raised()[::2], *many_bowls()[:16:3]]:
            if len(raised) < 8:
                self.each_subset(raised, subsets_of(len(raised)))

    def test_of_more_points(self):
        for raised in everything()[7::11]:
            self.each_subset(raised, subsets_of(len(raised))[::7])

    def each_subset(self, raised, subsets):
        bars, n = bars_of(raised), len(raised)
        for at, subset in enumerate(subsets):
            given = (subset, list(subset), subset[::-1], [*subset[1:], *subset[:1]])[at % 4]
            four = first_four(n, subset, bars)
            self.same(is_lowered(raised, given), four is None)
            if four is None:
                self.plane_parts(raised, subset, given)
            else:
                self.refuses(Barred(four), plane_for, raised, given)


class Lowered(LoweredCase):
    def test_every_size(self):
        for raised in [*small_raised(7), *everything()[::9]]:
            wanted = lowered_told(raised)
            for size in range(len(raised) + 1):
                self.same(lowered(raised, size), [subset for subset in wanted if len(subset) == size])

    def test_counts(self):
        for raised in [*small_raised(7), *everything()[::9]]:
            sizes = [len(subset) for subset in lowered_told(raised)]
            self.same(lowered_counts(raised), [sizes.count(k) for k in range(len(raised) + 1)])

    def test_known(self):
        deep, high = Raised(Floor(SAMPLE), DEEP), Raised(Floor(SAMPLE), [0, 0, 0, 5])
        self.same([lowered_counts(deep), lowered_counts(high)], [[1, 4, 6, 3, 1], [1, 3, 6, 4, 1]])
        self.same([lowered(deep, 3), lowered(high, 1)], [[(0, 1, 3), (0, 2, 3), (1, 2, 3)], [(0,), (1,), (2,)]])
        self.same([lowered(deep, 0), lowered(deep, 4)], [[()], [(0, 1, 2, 3)]])
        three = Raised(Floor(SAMPLE[:3]), [5, -2, 9])
        self.same([lowered(three, k) for k in range(4)],
                  [[()], [(0,), (1,), (2,)], [(0, 1), (0, 2), (1, 2)], [(0, 1, 2)]])
        self.new_each_time(lowered, deep, 2)
        self.new_each_time(lowered_counts, deep)

    def test_no_size(self):
        for n in range(3, 11):
            raised = Bowl.circular(Floor(ROUND[:n]))
            for wrong in (-1, n + 1, HUGE, -HUGE):
                self.refuses(NoSize(wrong), lowered, raised, wrong)


class PlaneFor(LoweredCase):
    def test_ends_of_the_ranges(self):
        for raised in extreme_raised():
            for size in range(len(raised) + 1):
                for subset in lowered(raised, size)[::9]:
                    self.plane_parts(raised, subset, subset)

    def test_known(self):
        self.refuses(Barred((0, 1, 2, 3)), plane_for, Raised(Floor(SAMPLE), [0, 0, 0, 5]), [3])
        self.plane_parts(Raised(Floor(SAMPLE), DEEP), (3,), [3])
        self.plane_parts(Raised(Floor(SAMPLE), DEEP), (), ())

    def test_the_same_plane_in_any_order(self):
        for raised in everything()[::8]:
            for size in range(len(raised) + 1):
                for subset in lowered(raised, size)[::3]:
                    for given in (list(subset), subset[::-1], (*subset[2:], *subset[:2])):
                        self.assertTrue(plane_for(raised, given) == plane_for(raised, subset))

    def test_wrong_subsets(self):
        for heights in (DEEP, [0, 0, 0, 5]):
            raised = Raised(Floor(SAMPLE), heights)
            for act in (is_lowered, plane_for):
                for wrong in (-1, 4, HUGE, -HUGE):
                    self.refuses(NoPoint(wrong), act, raised, [wrong])
                    self.refuses(NoPoint(wrong), act, raised, (0, 1, wrong, 0))
                self.refuses(Repeated(1), act, raised, [0, 1, 1, 9])
                self.refuses(Repeated(0), act, raised, (0, 1, 2, 3, 0))
                self.refuses(Repeated(3), act, raised, [3, 3, 3, 3, 3, 3])


class Facts(LoweredCase):
    def test_1_how_many(self):
        for raised in everything():
            n = len(raised)
            self.same(sum(lowered_counts(raised)), 1 + n + comb(n, 2) + comb(n, 3))

    def test_2_told_by_plane_row_and_cuts(self):
        for raised in everything():
            n, counts, s = len(raised), lowered_counts(raised), cut_counts(raised.floor)
            b = [0, 0, *plane_row(raised), 0]
            for k in range(1, n):
                self.same(2 * counts[k], 2 + s[k] + b[k + 1] + b[k])

    def test_3_bowls(self):
        for bowl in many_bowls():
            n, counts, d, s = len(bowl), lowered_counts(bowl), line_row(bowl.floor), cut_counts(bowl.floor)
            for k in range(1, n):
                self.same(counts[k], 1 + (2 * k - 1) * n - k * k - sum(d[:k - 1]))
                self.same(counts[k] + counts[n - k] - s[k], 2 * k * (n - k) - n + 2)
        for raised in everything():
            self.same(lowered_counts(raised)[1] == len(raised), is_bowl(raised))

    def test_4_all_corners(self):
        for bowl in many_bowls():
            n = len(bowl)
            self.same(lowered_counts(bowl) == [k * (n - k) + 1 for k in range(n + 1)],
                      line_row(bowl.floor) == [n] * (n - 1))

    def test_5_among_some_points(self):
        for raised in small_raised(7)[::5]:
            n = len(raised)
            every = [subset for size in range(n + 1) for subset in lowered(raised, size)]
            for size in range(3, n):
                for some in list(combinations(range(n), size))[::3]:
                    part = raised.only(some)
                    mine = sorted({tuple([some.index(k) for k in subset if k in some]) for subset in every})
                    self.same(sorted([s for k in range(size + 1) for s in lowered(part, k)]), mine)

    def test_6_cut_off_subsets(self):
        for raised in everything()[::3]:
            n = len(raised)
            for size in range(n + 1):
                some = lowered(raised, size)
                for subset in cuts(raised.floor, size):
                    self.assertTrue(subset in some)
                    rest = [k for k in range(n) if k not in subset]
                    self.assertTrue(size % 3 == 0 or is_lowered(raised, rest))
