"""Point 18: corners and the rim."""

from itertools import combinations, permutations

from everybowl.floors import Floor
from everybowl.linerows import line_row
from everybowl.rims import corners, rim, rim_area
from tests.helpers import FAR, NESTED, ROUND, SAMPLE, WIDE, Case, all_floors, doubled, lies_within, turn_of


def corners_of(floor):
    n = len(floor)
    return [k for k in range(n)
            if not any(lies_within(floor, three, k) for three in combinations(range(n), 3) if k not in three)]


class Corners(Case):
    def test_no_triangle_of_others_holds_them(self):
        for floor in all_floors():
            self.same(corners(floor), corners_of(floor))
            self.same(len(corners(floor)), line_row(floor)[0])

    def test_all_some_and_three(self):
        self.same(corners(Floor(ROUND)), list(range(10)))
        self.same(corners(Floor(NESTED)), [0, 1, 2])
        self.same(corners(Floor(SAMPLE)), [0, 1, 2])
        self.same(corners(Floor(WIDE)), [0, 1, 2, 3])
        self.same(corners(Floor(NESTED[3:])), corners_of(Floor(NESTED[3:])))
        self.new_each_time(corners, Floor(SAMPLE))


class Rim(Case):
    def test_counterclockwise_lowest_first(self):
        for floor in all_floors():
            found = rim(floor)
            self.same(sorted(found), corners_of(floor))
            self.same(found[0], min(found))
            for a, b in zip(found, found[1:] + found[:1]):
                self.assertTrue(all(turn_of(floor, a, b, c) == 1 for c in range(len(floor)) if c not in (a, b)))

    def test_followers_have_nothing_on_the_left_of_the_way_back(self):
        for floor in all_floors():
            found = rim(floor)
            pairs = [(a, b) for a, b in permutations(range(len(floor)), 2) if floor.left_of(b, a) == []]
            self.same(sorted(zip(found, found[1:] + found[:1])), pairs)

    def test_known(self):
        self.same(rim(Floor(SAMPLE)), [0, 1, 2])
        self.same(rim(Floor([(0, 0), (0, 4), (4, 0), (1, 1)])), [0, 2, 1])
        self.same(rim(Floor([(1, 1), (0, 4), (4, 0), (0, 0)])), [1, 3, 2])
        self.same(rim(Floor([(0, 0), (5, 4), (4, 0), (0, 5)])), [0, 2, 1, 3])
        self.same(rim(Floor(ROUND)), list(range(10)))
        self.new_each_time(rim, Floor(ROUND))


class RimArea(Case):
    def test_sum_around_the_origin(self):
        for floor in all_floors():
            found = [floor[k] for k in rim(floor)]
            wanted = sum(doubled((0, 0), p, q) for p, q in zip(found, found[1:] + found[:1]))
            self.same(rim_area(floor), wanted)
            self.assertTrue(wanted > 0)

    def test_known(self):
        self.same(rim_area(Floor(SAMPLE)), 16)
        self.same(rim_area(Floor([(0, 4), (4, 0), (0, 0), (1, 1)])), 16)
        self.same(rim_area(Floor(WIDE)), 8 * FAR * FAR)
        self.same(rim_area(Floor([(0, 0), (1, 0), (0, 1), (1, 1)])), 2)
