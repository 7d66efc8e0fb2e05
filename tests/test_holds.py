"""Point 19: each point is held by a triangle, or a line parts it from all others."""

from itertools import combinations
from math import gcd

from everybowl.errors import NoPoint, Within
from everybowl.floors import Floor
from everybowl.holds import held_by, line_past
from everybowl.rims import corners
from tests.helpers import FAR, NESTED, SAMPLE, WIDE, Case, all_floors, lies_within

HUGE = 10 ** 5000
# A thin hull: the corner at the ends of the range is almost on the line of the others.
THIN = [(-FAR, -FAR), (FAR, FAR - 1), (FAR - 1, FAR - 2), (-1, -1)]


def floors():
    return [*all_floors(), Floor(THIN), Floor([THIN[3], *THIN[:3]])]


def first_triangle(floor, number):
    found = [three for three in combinations(range(len(floor)), 3)
             if number not in three and lies_within(floor, three, number)]
    return found[0] if found else None


class HeldBy(Case):
    def test_every_point(self):
        for floor in floors():
            for number in range(len(floor)):
                three = first_triangle(floor, number)
                if three is None:
                    self.same(held_by(floor, number), None)
                else:
                    self.weights_fit(floor, number, three)

    def weights_fit(self, floor, number, three):
        got, weights = held_by(floor, number)
        self.same((got, weights), (three, tuple([int(weight) for weight in weights])))
        self.assertIs(held_by(floor, number).__class__, tuple)
        self.assertTrue(len(weights) == 3 and min(weights) > 0 and gcd(*weights) == 1)
        for axis in (0, 1):
            self.same(sum(weight * floor[corner][axis] for weight, corner in zip(weights, three)),
                      sum(weights) * floor[number][axis])

    def test_none_for_corners_alone(self):
        for floor in floors():
            self.same([k for k in range(len(floor)) if held_by(floor, k) is None], corners(floor))

    def test_known(self):
        self.same(held_by(Floor(SAMPLE), 3), ((0, 1, 2), (2, 1, 1)))
        self.same(held_by(Floor([(0, 0), (0, 4), (4, 0), (1, 1)]), 3), ((0, 1, 2), (2, 1, 1)))
        self.same(held_by(Floor([(1, 1), (0, 4), (4, 0), (0, 0)]), 0), ((1, 2, 3), (1, 1, 2)))
        self.same([held_by(Floor(SAMPLE), k) for k in (0, 1, 2)], [None, None, None])


class LinePast(Case):
    def test_every_point(self):
        for floor in floors():
            for number in range(len(floor)):
                three = first_triangle(floor, number)
                if three is not None:
                    self.refuses(Within(three), line_past, floor, number)
                else:
                    self.line_parts(floor, number)

    def line_parts(self, floor, number):
        line = line_past(floor, number)
        p, q, r = line
        self.same(line, (int(p), int(q), int(r)))
        self.assertTrue(all(abs(part) < 10 ** 90 for part in line))
        for k, (x, y) in enumerate(floor.points):
            value = p * x + q * y + r
            self.assertTrue(value > 0 if k == number else value < 0)

    def test_within_has_the_triangle_of_held_by(self):
        for floor in (Floor(NESTED), Floor(WIDE)):
            for number in range(len(floor)):
                held = held_by(floor, number)
                if held is not None:
                    self.refuses(Within(held[0]), line_past, floor, number)
        self.refuses(Within((0, 1, 2)), line_past, Floor(SAMPLE), 3)


class WrongNumbers(Case):
    def test_no_point(self):
        for n in range(3, 11):
            for wrong in (-1, n, HUGE, -HUGE):
                self.refuses(NoPoint(wrong), held_by, Floor(NESTED[:n]), wrong)
                self.refuses(NoPoint(wrong), line_past, Floor(NESTED[:n]), wrong)
