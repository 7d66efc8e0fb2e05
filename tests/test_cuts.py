"""Points 38 and 40: subsets that are cut off by a line."""

from math import comb

from everybowl.cuts import cut_counts, cuts, is_cut, line_for
from everybowl.errors import Crossed, NoPoint, NoSize, Repeated
from everybowl.floors import Floor
from everybowl.linerows import line_row
from tests.heights import HUGE, THIN, crossings_of, first_four, is_short, subsets_of
from tests.helpers import FAR, NESTED, ROUND, SAMPLE, Case, all_floors


def floors():
    ends = [(-FAR, -FAR), (FAR, FAR), (FAR, FAR - 1), (-FAR, 1 - FAR), (0, 1), (1, 0)]
    return [*all_floors(), Floor(THIN), Floor(THIN[1:]), Floor(ends[:4]), Floor(ends)]


def cuts_told(floor):
    bars, n = crossings_of(floor), len(floor)
    return [subset for subset in subsets_of(n) if first_four(n, subset, bars) is None]


class CutCase(Case):
    def line_parts(self, floor, subset, given):
        line = line_for(floor, given)
        p, q, r = line
        self.same(line, (int(p), int(q), int(r)))
        self.assertTrue(all(is_short(part) for part in line))
        for k, (x, y) in enumerate(floor.points):
            value = p * x + q * y + r
            self.assertTrue(value > 0 if k in subset else value < 0)


class AllSubsets(CutCase):
    def test_of_few_points(self):
        for floor in floors():
            if len(floor) < 8:
                self.each_subset(floor, subsets_of(len(floor)))

    def test_of_more_points(self):
        for floor in floors():
            if len(floor) > 7:
                self.each_subset(floor, subsets_of(len(floor))[::29])

    def each_subset(self, floor, subsets):
        bars, n = crossings_of(floor), len(floor)
        for at, subset in enumerate(subsets):
            given = (subset, list(subset), subset[::-1], [*subset[1:], *subset[:1]])[at % 4]
            four = first_four(n, subset, bars)
            self.same(is_cut(floor, given), four is None)
            if four is None:
                self.line_parts(floor, subset, given)
            else:
                self.refuses(Crossed(four), line_for, floor, given)


class Cuts(CutCase):
    def test_every_size(self):
        for floor in floors():
            wanted = cuts_told(floor)
            for size in range(len(floor) + 1):
                self.same(cuts(floor, size), [subset for subset in wanted if len(subset) == size])

    def test_every_cut_has_a_line(self):
        for floor in floors()[::2]:
            for size in range(len(floor) + 1):
                for subset in cuts(floor, size):
                    self.line_parts(floor, subset, subset)

    def test_counts(self):
        for floor in floors():
            n, d = len(floor), line_row(floor)
            counts = cut_counts(floor)
            self.same(counts, [len(cuts(floor, size)) for size in range(n + 1)])
            self.same(counts, [1, *d, 1])
            self.same(sum(counts), n * (n - 1) + 2)

    def test_known(self):
        floor = Floor(SAMPLE)
        self.same(cut_counts(floor), [1, 3, 6, 3, 1])
        self.same([cuts(floor, k) for k in (0, 1, 3, 4)],
                  [[()], [(0,), (1,), (2,)], [(0, 1, 3), (0, 2, 3), (1, 2, 3)], [(0, 1, 2, 3)]])
        self.same(cuts(Floor(SAMPLE[:3]), 2), [(0, 1), (0, 2), (1, 2)])
        self.same(sum(cut_counts(Floor(ROUND))), 92)
        self.assertTrue(sum(cut_counts(Floor(NESTED))) < 1 + 10 + comb(10, 2) + comb(10, 3))
        self.new_each_time(cuts, floor, 2)
        self.new_each_time(cuts, floor, 0)
        self.new_each_time(cut_counts, floor)

    def test_all_other_points(self):
        for floor in floors()[::2]:
            n = len(floor)
            for size in range(n + 1):
                rests = [tuple([k for k in range(n) if k not in subset]) for subset in cuts(floor, size)]
                self.same(sorted(rests), cuts(floor, n - size))

    def test_no_size(self):
        for n in range(3, 11):
            for wrong in (-1, n + 1, HUGE, -HUGE):
                self.refuses(NoSize(wrong), cuts, Floor(NESTED[:n]), wrong)


class LineFor(CutCase):
    def test_empty_and_whole(self):
        for floor in floors():
            whole = tuple(range(len(floor)))
            self.line_parts(floor, (), [])
            self.line_parts(floor, whole, whole[::-1])
            self.assertIs(is_cut(floor, []), True)
            self.assertIs(is_cut(floor, whole), True)

    def test_the_same_line_in_any_order(self):
        for floor in floors()[::4]:
            for size in range(len(floor) + 1):
                for subset in cuts(floor, size)[::3]:
                    for given in (list(subset), subset[::-1], (*subset[2:], *subset[:2])):
                        self.same(line_for(floor, given), line_for(floor, subset))

    def test_known(self):
        for subset in ([3], (2, 0, 1)):
            self.refuses(Crossed((0, 1, 2, 3)), line_for, Floor(SAMPLE), subset)
        self.line_parts(Floor(SAMPLE), (1, 3), [3, 1])

    def test_wrong_subsets(self):
        floor = Floor(SAMPLE)
        for act in (is_cut, line_for):
            for wrong in (-1, 4, HUGE, -HUGE):
                self.refuses(NoPoint(wrong), act, floor, [wrong])
                self.refuses(NoPoint(wrong), act, floor, (0, 1, wrong, 0))
            self.refuses(Repeated(1), act, floor, [0, 1, 1, 9])
            self.refuses(Repeated(0), act, floor, (0, 1, 2, 3, 0))
            self.refuses(Repeated(3), act, floor, [3, 3, 3, 3, 3, 3])
