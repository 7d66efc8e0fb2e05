"""Points 29 and 30: circles."""

from fractions import Fraction
from itertools import combinations, permutations

from everybowl.bowls import Bowl
from everybowl.circles import circle, inside_circle
from everybowl.errors import NoPoint, OnPlane, Repeated
from everybowl.floors import Floor
from everybowl.ratios import Ratio
from everybowl.turns import ring_sign
from tests.heights import HUGE, THIN, fraction
from tests.helpers import SAMPLE, WIDE, Case, all_floors

SQUARE = [(0, 0), (1, 0), (0, 1), (1, 1)]


def floors():
    return [*all_floors(), Floor(SQUARE), Floor([(5, 7), *SQUARE]), Floor(THIN), Floor(WIDE[:4])]


def squared(x, y, point):
    return (x - point[0]) ** 2 + (y - point[1]) ** 2


class Circle(Case):
    def test_equally_far_from_the_three(self):
        for floor in floors():
            for three in list(combinations(range(len(floor)), 3))[::3]:
                got = circle(floor, *three)
                self.same([got.__class__, *[part.__class__ for part in got]], [tuple, Ratio, Ratio, Ratio])
                x, y, square = [fraction(part) for part in got]
                self.same([(part.top, part.bottom) for part in got],
                          [(part.numerator, part.denominator) for part in (x, y, square)])
                for number in three:
                    self.assertEqual(squared(x, y, floor[number]), square)
                for order in permutations(three):
                    self.assertTrue(circle(floor, *order) == got)

    def test_known(self):
        self.same([part.text() for part in circle(Floor(SAMPLE), 0, 1, 3)], ["2", "-1", "5"])
        self.same([part.text() for part in circle(Floor(SAMPLE), 2, 1, 0)], ["2", "2", "8"])
        self.same([part.text() for part in circle(Floor(SQUARE), 3, 1, 2)], ["1/2", "1/2", "1/2"])


class InsideCircle(Case):
    def test_against_ring_sign_and_distances(self):
        for floor in floors():
            for three in combinations(range(len(floor)), 3):
                got = inside_circle(floor, *three)
                x, y, square = [fraction(part) for part in circle(floor, *three)]
                wanted = [d for d in range(len(floor)) if squared(x, y, floor[d]) < square]
                self.same(got, wanted)
                places = [floor[k] for k in three]
                self.same(got, [d for d in range(len(floor)) if ring_sign(*places, floor[d]) == 1])

    def test_in_every_order(self):
        for floor in floors()[::5]:
            for three in list(combinations(range(len(floor)), 3))[::4]:
                for order in permutations(three):
                    self.same(inside_circle(floor, *order), inside_circle(floor, *three))

    def test_four_points_on_a_circle(self):
        for three in combinations(range(4), 3):
            self.same(inside_circle(Floor(SQUARE), *three), [])
            self.same(inside_circle(Floor(WIDE[:5]), *three), [4])
        self.same(inside_circle(Floor([(-1, -1), (1, -1), (-1, 2), (1, 1), (0, 1)]), 0, 1, 3), [4])

    def test_known(self):
        self.same([inside_circle(Floor(SAMPLE), *three) for three in combinations(range(4), 3)], [[3], [], [], []])
        self.new_each_time(inside_circle, Floor(SAMPLE), 0, 1, 2)

    def test_below_the_planes_of_the_circular_bowl(self):
        checked = 0
        for floor in floors():
            try:
                bowl = Bowl.circular(floor)
            except OnPlane:
                continue
            checked += 1
            for three in combinations(range(len(floor)), 3):
                self.same(inside_circle(floor, *three), bowl.below(*three))
        self.assertTrue(checked > 30)


class WrongNumbers(Case):
    def test_member_by_member(self):
        for act in (circle, inside_circle):
            for points in (SAMPLE, SQUARE, SAMPLE[:3]):
                floor, n = Floor(points), len(points)
                for wrong in (-1, n, HUGE, -HUGE):
                    self.refuses(NoPoint(wrong), act, floor, wrong, wrong, 9)
                    self.refuses(NoPoint(wrong), act, floor, 0, wrong, 0)
                    self.refuses(NoPoint(wrong), act, floor, 0, 1, wrong)
                self.refuses(Repeated(2), act, floor, 2, 2, 9)
                self.refuses(Repeated(2), act, floor, 2, 0, 2)
                self.refuses(Repeated(0), act, floor, 2, 0, 0)

    def test_fractions_are_exact(self):
        x, y, square = [fraction(part) for part in circle(Floor(THIN), 0, 1, 2)]
        self.assertEqual(squared(x, y, THIN[0]), square)
        self.assertTrue(square > Fraction(10 ** 12))
