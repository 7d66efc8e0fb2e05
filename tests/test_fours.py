"""Points 20 and 21: four points."""

from itertools import combinations, permutations
from math import comb

from everybowl.errors import NoPoint, Repeated
from everybowl.floors import Floor
from everybowl.fours import convex_fours, inner_of, inner_pairs, split
from everybowl.linerows import corner_row, line_row
from tests.helpers import NESTED, ROUND, SAMPLE, WIDE, Case, all_floors, lies_within, turn_of

HUGE = 10 ** 5000


def inside(floor, four):
    """The numbers of those of four points that lie within the triangle of the others."""
    return [k for k in four if lies_within(floor, [other for other in four if other != k], k)]


def crossing(floor, first, second):
    """Whether the segments of two pairs cross."""
    (a, b), (c, d) = first, second
    return (turn_of(floor, a, b, c) != turn_of(floor, a, b, d)
            and turn_of(floor, c, d, a) != turn_of(floor, c, d, b))


def parts_of(floor, four):
    """The split, told by looking at all three pairings."""
    a, b, c, d = four
    found = inside(floor, four)
    if found:
        parts = (tuple(found), tuple([k for k in four if k not in found]))
        return parts if parts[0] < parts[1] else parts[::-1]
    return [pair for pair in (((a, b), (c, d)), ((a, c), (b, d)), ((a, d), (b, c))) if crossing(floor, *pair)][0]


class InnerOf(Case):
    def test_in_every_order(self):
        for floor in all_floors()[::2]:
            for four in combinations(range(len(floor)), 4):
                found = inside(floor, four)
                self.assertTrue(len(found) <= 1)
                for order in permutations(four):
                    self.same(inner_of(floor, *order), found[0] if found else None)

    def test_known(self):
        self.same(inner_of(Floor(SAMPLE), 0, 1, 2, 3), 3)
        self.same(inner_of(Floor([(1, 1), (0, 0), (4, 0), (0, 4)]), 0, 1, 2, 3), 0)
        self.same(inner_of(Floor(ROUND), 0, 1, 2, 3), None)


class Split(Case):
    def test_in_every_order(self):
        for floor in all_floors()[::2]:
            for four in combinations(range(len(floor)), 4):
                wanted = parts_of(floor, four)
                for order in permutations(four):
                    self.same(split(floor, *order), wanted)

    def test_known(self):
        self.same(split(Floor(SAMPLE), 3, 2, 1, 0), ((0, 1, 2), (3,)))
        self.same(split(Floor([(1, 1), (0, 0), (4, 0), (0, 4)]), 0, 1, 2, 3), ((0,), (1, 2, 3)))
        self.same(split(Floor(ROUND), 9, 5, 2, 7), ((2, 7), (5, 9)))
        self.same(split(Floor(WIDE), 0, 1, 2, 3), ((0, 2), (1, 3)))
        square = [(0, 0), (1, 0), (0, 1), (1, 1)]
        self.same(split(Floor(square), 0, 1, 2, 3), ((0, 3), (1, 2)))


class WrongNumbers(Case):
    def test_member_by_member(self):
        floor = Floor(SAMPLE)
        for act in (lambda *four: inner_of(floor, *four), lambda *four: split(floor, *four)):
            for wrong in (-1, 4, HUGE, -HUGE):
                self.refuses(NoPoint(wrong), act, wrong, wrong, 9, 9)
                self.refuses(NoPoint(wrong), act, 0, wrong, 0, 9)
                self.refuses(NoPoint(wrong), act, 0, 1, wrong, 1)
                self.refuses(NoPoint(wrong), act, 0, 1, 2, wrong)
            self.refuses(Repeated(1), act, 1, 1, 9, 9)
            self.refuses(Repeated(2), act, 2, 1, 2, 9)
            self.refuses(Repeated(1), act, 2, 1, 1, -1)
            for number in (0, 1, 2):
                self.refuses(Repeated(number), act, 0, 1, 2, number)
        self.refuses(NoPoint(3), inner_of, Floor(SAMPLE[:3]), 0, 1, 2, 3)
        self.refuses(Repeated(0), split, Floor(SAMPLE[:3]), 0, 1, 2, 0)


class InnerPairs(Case):
    def test_complete_and_ascending(self):
        for floor in all_floors():
            n = len(floor)
            wanted = [(three, k) for three in combinations(range(n), 3) for k in range(n)
                      if k not in three and lies_within(floor, three, k)]
            self.same(inner_pairs(floor), wanted)
            self.same(wanted, sorted(wanted))

    def test_known(self):
        self.same(inner_pairs(Floor(SAMPLE)), [((0, 1, 2), 3)])
        self.same(inner_pairs(Floor(SAMPLE[:3])), [])
        self.same(inner_pairs(Floor(ROUND)), [])
        self.same(inner_pairs(Floor([(1, 1), (0, 0), (4, 0), (0, 4)])), [((1, 2, 3), 0)])
        self.new_each_time(inner_pairs, Floor(SAMPLE))


class ConvexFours(Case):
    def test_count(self):
        for floor in all_floors():
            fours = list(combinations(range(len(floor)), 4))
            self.same(convex_fours(floor), sum(not inside(floor, four) for four in fours))

    def test_facts(self):
        for floor in all_floors():
            n, d, x = len(floor), line_row(floor), convex_fours(floor)
            self.same(len(inner_pairs(floor)), comb(n, 4) - x)
            self.same(2 * x, 6 * comb(n, 4) - sum(j * (n - 2 - j) * d[j] for j in range(n - 1)))
            if n > 3:
                self.same(corner_row(floor)[1], 3 * comb(n, 4) + x)
            if n % 2 == 1:
                self.same(x % 2, comb(n, 5) % 2)

    def test_five_points(self):
        for floor in all_floors():
            for five in list(combinations(range(len(floor)), 5))[::9]:
                part = floor.only(five)
                self.same(convex_fours(part), {3: 1, 4: 3, 5: 5}[line_row(part)[0]])

    def test_known(self):
        self.same([convex_fours(Floor(SAMPLE[:3])), convex_fours(Floor(SAMPLE))], [0, 0])
        self.same([convex_fours(Floor(ROUND[:n])) for n in range(3, 11)], [comb(n, 4) for n in range(3, 11)])
        self.assertTrue(0 < convex_fours(Floor(NESTED)) < comb(10, 4))
