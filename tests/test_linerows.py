"""Points 16 to 18, and 33.9: directed lines."""

from itertools import combinations, permutations
from math import comb

from everybowl.errors import NoPoint, NoSize
from everybowl.floors import Floor
from everybowl.linerows import corner_row, line_row, lines_with, round_point
from tests.helpers import NESTED, ROUND, SAMPLE, Case, all_floors, lies_within, turn_of

HUGE = 10 ** 5000


def left_count(floor, a, b):
    return sum(turn_of(floor, a, b, c) == 1 for c in range(len(floor)) if c not in (a, b))


def lines_of(floor, count):
    return [(a, b) for a, b in permutations(range(len(floor)), 2) if left_count(floor, a, b) == count]


def corners_among(floor, numbers):
    return [k for k in numbers
            if not any(lies_within(floor, three, k) for three in combinations(numbers, 3) if k not in three)]


class LineRow(Case):
    def test_against_turns(self):
        for floor in all_floors():
            self.same(line_row(floor), [len(lines_of(floor, j)) for j in range(len(floor) - 1)])

    def test_facts(self):
        for floor in all_floors():
            n, row = len(floor), line_row(floor)
            self.same([len(row), sum(row)], [n - 1, n * (n - 1)])
            self.same(row, row[::-1])
            self.assertTrue(min(row) >= 3)
            self.same(row[0], len(corners_among(floor, range(n))))

    def test_known(self):
        self.same(line_row(Floor(SAMPLE)), [3, 6, 3])
        self.same(line_row(Floor(SAMPLE[:3])), [3, 3])
        self.same(line_row(Floor(ROUND)), [10] * 9)
        self.new_each_time(line_row, Floor(SAMPLE))

    def test_one_point_left_out(self):
        for floor in all_floors():
            n, d = len(floor), [*line_row(floor), 0]
            if n > 3:
                rows = [line_row(floor.without(k)) for k in range(n)]
                self.same([sum(row[j] for row in rows) for j in range(n - 2)],
                          [(n - 2 - j) * d[j] + (j + 1) * d[j + 1] for j in range(n - 2)])

    def test_all_subsets_of_a_size(self):
        for floor in all_floors()[::5]:
            n, d = len(floor), line_row(floor)
            for r in range(3, n + 1):
                rows = [line_row(floor.only(part)) for part in combinations(range(n), r)]
                self.same([sum(row[j] for row in rows) for j in range(r - 1)],
                          [sum(d[i] * comb(i, j) * comb(n - 2 - i, r - 2 - j) for i in range(n - 1) if r - 2 >= j)
                           for j in range(r - 1)])


class LinesWith(Case):
    def test_every_count(self):
        for floor in all_floors():
            for count in range(len(floor) - 1):
                self.same(lines_with(floor, count), lines_of(floor, count))

    def test_known(self):
        self.same(lines_with(Floor(SAMPLE), 0), [(0, 2), (1, 0), (2, 1)])
        self.new_each_time(lines_with, Floor(SAMPLE), 1)

    def test_no_size(self):
        for n in range(3, 11):
            for wrong in (-1, n - 1, HUGE, -HUGE):
                self.refuses(NoSize(wrong), lines_with, Floor(NESTED[:n]), wrong)


class RoundPoint(Case):
    def test_from_every_point(self):
        for floor in all_floors():
            n = len(floor)
            for number in range(n):
                found = round_point(floor, number)
                rest = [k for k in range(n) if k != number]
                self.same(sorted(found), rest)
                self.same(found[0], rest[0])
                self.turns_once(floor, number, found)

    def turns_once(self, floor, number, found):
        """Each further point is farther counterclockwise from the first one than the point before it."""
        left = [turn_of(floor, number, found[0], c) == 1 for c in found[1:]]
        self.same(left, sorted(left, reverse=True))
        for (b, b_left), (c, c_left) in zip(zip(found[1:], left), list(zip(found[1:], left))[1:]):
            self.assertTrue(b_left != c_left or turn_of(floor, number, b, c) == 1)

    def test_known(self):
        floor = Floor(SAMPLE)
        self.same([round_point(floor, k) for k in range(4)], [[1, 3, 2], [0, 2, 3], [0, 3, 1], [0, 1, 2]])
        self.same(round_point(Floor([(0, 4), (4, 0), (0, 0)]), 2), [0, 1])
        self.same(round_point(Floor([(0, 0), (1, 5), (5, 1), (-3, 1), (1, -4)]), 0), [1, 3, 4, 2])
        self.new_each_time(round_point, floor, 3)

    def test_no_point(self):
        for n in range(3, 11):
            for wrong in (-1, n, HUGE, -HUGE):
                self.refuses(NoPoint(wrong), round_point, Floor(ROUND[:n]), wrong)


class CornerRow(Case):
    def test_against_all_subsets(self):
        for floor in all_floors():
            n = len(floor)
            if n < 9:
                self.same(corner_row(floor), [sum(len(corners_among(floor, part)) for part in combinations(range(n), r))
                                              for r in range(3, n + 1)])

    def test_fact(self):
        for floor in all_floors():
            n, d = len(floor), line_row(floor)
            self.same(corner_row(floor), [sum(d[j] * comb(n - 2 - j, r - 2) for j in range(n - 1))
                                          for r in range(3, n + 1)])

    def test_known(self):
        self.same(corner_row(Floor(SAMPLE)), [12, 3])
        self.same(corner_row(Floor(SAMPLE[:3])), [3])
        self.same(corner_row(Floor(ROUND)), [r * comb(10, r) for r in range(3, 11)])
        self.new_each_time(corner_row, Floor(SAMPLE))
