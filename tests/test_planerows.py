"""Points 31 to 33: planes counted by what is below them."""

from itertools import combinations
from math import comb

from everybowl.bowls import Bowl
from everybowl.errors import NoPoint, NoSize
from everybowl.floors import Floor
from everybowl.fours import convex_fours
from everybowl.linerows import line_row
from everybowl.nets import body_corners
from everybowl.planerows import (
    deep_row, high_row, inner_row, net_row, plane_row, planes_with, pole_row, side_row,
)
from everybowl.raised import Raised
from everybowl.rims import corners
from everybowl.touches import is_bowl
from tests.heights import (
    DEEP, HUGE, belows, bowl_heights, extreme_raised, many_bowls, many_raised, pairs_beyond, scattered_heights,
    small_raised,
)
from tests.helpers import NESTED, ROUND, SAMPLE, Case, all_floors


def everything():
    return [*many_raised(), *many_bowls()[::3], *extreme_raised()[::4]]


def counted(lists, length):
    sizes = [len(part) for part in lists]
    return [sizes.count(j) for j in range(length)]


def at(row, place):
    return row[place] if 0 <= place < len(row) else 0


class PlaneRow(Case):
    def test_against_a_count(self):
        for raised in everything():
            row = plane_row(raised)
            self.same(row, counted(belows(raised).values(), len(raised) - 2))
            self.same(sum(row), comb(len(raised), 3))

    def test_known(self):
        self.same(plane_row(Raised(Floor(SAMPLE), DEEP)), [3, 1])
        self.same(plane_row(Raised(Floor(SAMPLE), [0, 0, 0, 5])), [1, 3])
        self.same(plane_row(Raised(Floor(SAMPLE[:3]), [7, 0, 0])), [1])
        self.same(plane_row(Bowl.circular(Floor(ROUND))), [(j + 1) * (8 - j) for j in range(8)])
        self.new_each_time(plane_row, Raised(Floor(SAMPLE), DEEP))


class PlanesWith(Case):
    def test_every_count(self):
        for raised in everything():
            for count in range(len(raised) - 2):
                self.same(planes_with(raised, count),
                          [three for three, below in belows(raised).items() if len(below) == count])

    def test_no_size(self):
        for n in range(3, 11):
            raised = Bowl.circular(Floor(ROUND[:n]))
            for wrong in (-1, n - 2, HUGE, -HUGE):
                self.refuses(NoSize(wrong), planes_with, raised, wrong)
        self.new_each_time(planes_with, Raised(Floor(SAMPLE), DEEP), 0)


class SideRow(Case):
    def test_both_sides(self):
        for raised in everything():
            row, last = counted(belows(raised).values(), len(raised) - 2), len(raised) - 3
            self.same(side_row(raised), [row[j] + row[last - j] for j in range(last + 1)])
        self.same(side_row(Raised(Floor(SAMPLE[:3]), [7, 0, 0])), [2])
        self.same(side_row(Raised(Floor(SAMPLE), DEEP)), [4, 4])
        self.new_each_time(side_row, Raised(Floor(SAMPLE), DEEP))


class PoleRow(Case):
    def test_every_point(self):
        for raised in everything():
            n = len(raised)
            for number in range(n):
                mine = [below for three, below in belows(raised).items() if number in three]
                self.same(pole_row(raised, number), counted(mine, n - 2))

    def test_known_and_new(self):
        raised = Raised(Floor(SAMPLE), DEEP)
        self.same([pole_row(raised, 0), pole_row(raised, 3)], [[2, 1], [3, 0]])
        self.same(pole_row(Raised(Floor(SAMPLE[:3]), [7, 0, 0]), 1), [1])
        self.new_each_time(pole_row, raised, 0)

    def test_no_point(self):
        for n in range(3, 11):
            for wrong in (-1, n, HUGE, -HUGE):
                self.refuses(NoPoint(wrong), pole_row, Bowl.circular(Floor(ROUND[:n])), wrong)


class PairRows(Case):
    def test_high_and_deep(self):
        for raised in everything():
            length = len(raised) - 3
            high = counted([below for _, below in pairs_beyond(raised, 1)], length)
            deep = counted([below[1:] for _, below in pairs_beyond(raised, -1)], length)
            self.same(high_row(raised), high)
            self.same(deep_row(raised), deep)
            self.same(inner_row(raised), [a + b for a, b in zip(high, deep)])
            self.same([len(high), len(deep), len(inner_row(raised))], [length] * 3)

    def test_empty_for_three_points(self):
        for act in (high_row, deep_row, inner_row):
            self.same(act(Raised(Floor(SAMPLE[:3]), [7, 0, 0])), [])
            self.new_each_time(act, Raised(Floor(SAMPLE[:3]), [7, 0, 0]))
            self.new_each_time(act, Raised(Floor(SAMPLE), DEEP))

    def test_known(self):
        deep, high = Raised(Floor(SAMPLE), DEEP), Raised(Floor(SAMPLE), [0, 0, 0, 5])
        self.same([high_row(deep), deep_row(deep), inner_row(deep)], [[0], [1], [1]])
        self.same([high_row(high), deep_row(high), inner_row(high)], [[1], [0], [1]])


class NetRow(Case):
    def test_against_all_subsets(self):
        for raised in small_raised(6):
            n = len(raised)
            wanted = []
            for size in range(3, n + 1):
                parts = combinations(range(n), size)
                wanted.append(sum(not set(below) & set(part) for part in parts
                                  for three, below in belows(raised).items() if set(three) <= set(part)))
            self.same(net_row(raised), wanted)

    def test_against_smaller_ones(self):
        for raised in small_raised(6)[::4]:
            n = len(raised)
            self.same(net_row(raised), [sum(plane_row(raised.only(part))[0] for part in combinations(range(n), size))
                                        for size in range(3, n + 1)])

    def test_known(self):
        self.same(net_row(Raised(Floor(SAMPLE), DEEP)), [4, 3])
        self.same(net_row(Raised(Floor(SAMPLE[:3]), [7, 0, 0])), [1])
        self.new_each_time(net_row, Raised(Floor(SAMPLE), DEEP))


class Facts(Case):
    def test_1_for_all_heights(self):
        for raised in everything():
            n, b, d, high = len(raised), plane_row(raised), line_row(raised.floor), high_row(raised)
            for j in range(n - 2):
                self.same(b[j] + sum(d[:j + 1]) + 2 * (at(high, j) - at(high, j - 1)), (j + 1) * (2 * n - 2 - j))

    def test_2_bowls_alone(self):
        for raised in everything():
            n, b, d = len(raised), plane_row(raised), line_row(raised.floor)
            fits = [b[j] + sum(d[:j + 1]) == (j + 1) * (2 * n - 2 - j) for j in range(n - 2)]
            self.same([all(fits), fits[0]], [is_bowl(raised)] * 2)

    def test_3_all_bowls_over_a_floor(self):
        for floor in all_floors():
            n, d = len(floor), line_row(floor)
            rows = [plane_row(Bowl(floor, bowl_heights(floor, seed))) for seed in (1, 5)]
            self.same(rows[0], rows[1])
            for j in range(n - 2):
                self.same(rows[0][j] + rows[0][n - 3 - j], 2 * (j + 1) * (n - 2 - j))
            self.same(rows[0][-1], len(corners(floor)) - 2)
            if n % 2 == 1:
                self.same(rows[0][n // 2 - 1], (n // 2) ** 2)
            some = [Raised(floor, scattered_heights(floor, seed, 1000)) for seed in range(4)]
            for first, second in combinations(some, 2):
                self.same(plane_row(first) == plane_row(second), high_row(first) == high_row(second))
            self.same(d, d[::-1])

    def test_4_inner_row(self):
        for raised in everything():
            n, inner, d = len(raised), inner_row(raised), line_row(raised.floor)
            self.same(inner, inner_row(Raised(raised.floor, scattered_heights(raised.floor, 77, 5000))))
            for j in range(n - 1):
                self.same(at(inner, j) - 2 * at(inner, j - 1) + at(inner, j - 2), n - d[j])
            self.same(inner, inner[::-1])
        for raised in many_bowls():
            b, inner = plane_row(raised), inner_row(raised)
            for j, entry in enumerate(b):
                self.same(entry - b[len(b) - 1 - j], 2 * (at(inner, j) - at(inner, j - 1)))

    def test_5_corners_of_the_body(self):
        seen = set()
        for raised in everything():
            n = len(raised)
            full = side_row(raised) == [2 * (j + 1) * (n - 2 - j) for j in range(n - 2)]
            self.same(body_corners(raised) == list(range(n)), full)
            seen.add(full)
        self.assertEqual(seen, {True, False})

    def test_6_all_corners(self):
        for bowl in many_bowls():
            n = len(bowl)
            full = corners(bowl.floor) == list(range(n))
            self.same(line_row(bowl.floor) == [n] * (n - 1), full)
            self.same(plane_row(bowl) == [(j + 1) * (n - 2 - j) for j in range(n - 2)], full)

    def test_7_net_row(self):
        for raised in everything():
            n, b = len(raised), plane_row(raised)
            self.same(net_row(raised),
                      [sum(b[j] * comb(n - 3 - j, r - 3) for j in range(n - 2)) for r in range(3, n + 1)])

    def test_8_points_below(self):
        for raised in everything():
            n, below = len(raised), sum(j * entry for j, entry in enumerate(plane_row(raised)))
            self.same(below, comb(n, 4) + convex_fours(raised.floor) + 2 * sum(high_row(raised)))

    def test_9_points_left_out(self):
        for raised in many_raised()[::2]:
            n, b = len(raised), [*plane_row(raised), 0]
            if n > 3:
                rows = [plane_row(raised.without(k)) for k in range(n)]
                self.same([sum(row[j] for row in rows) for j in range(n - 3)],
                          [(n - 3 - j) * b[j] + (j + 1) * b[j + 1] for j in range(n - 3)])

    def test_9_subsets_of_a_size(self):
        for raised in small_raised(7)[::6]:
            n, b = len(raised), plane_row(raised)
            for r in range(3, n + 1):
                rows = [plane_row(raised.only(part)) for part in combinations(range(n), r)]
                self.same([sum(row[j] for row in rows) for j in range(r - 2)],
                          [sum(b[i] * comb(i, j) * comb(n - 3 - i, r - 3 - j) for i in range(n - 2))
                           for j in range(r - 2)])

    def test_10_pole_rows(self):
        for raised in everything():
            rows = [pole_row(raised, k) for k in range(len(raised))]
            self.same([sum(column) for column in zip(*rows)], [3 * entry for entry in plane_row(raised)])

    def test_nested_points_are_no_corners(self):
        self.assertTrue(len(corners(Floor(NESTED))) < 10)
