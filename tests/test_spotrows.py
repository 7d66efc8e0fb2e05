"""Points 48 and 49: the spot row by heights, and the triangles of the nets around a spot."""

from everybowl.bowls import Bowl
from everybowl.circles import inside_circle
from everybowl.errors import OtherFloor
from everybowl.floors import Floor
from everybowl.raised import Raised
from everybowl.spotrows import height_row, high_triangle, low_triangle
from everybowl.spots import Spot
from tests.heights import (
    DEEP, belows, extreme_raised, many_bowls, many_raised, places_of, scattered_heights, slopes,
)
from tests.helpers import ROUND, SAMPLE, Case, all_floors
from tests.test_spots import drawn_spots, place_of, triangles_told

ACTS = (height_row, low_triangle, high_triangle)


def everything():
    return [*many_raised()[::2], *many_bowls()[::3], *extreme_raised()[::3]]


def height_at(raised, three, spot):
    alpha, beta, gamma = slopes(places_of(raised), *three)
    x, y = place_of(spot)
    return alpha * x + beta * y + gamma


class HeightRow(Case):
    def test_the_same_for_all_heights(self):
        for k, raised in enumerate(everything()):
            for spot in drawn_spots(raised.floor, k, 4):
                counts = [len(belows(raised)[three]) for three in triangles_told(spot)]
                self.same(height_row(raised, spot), [counts.count(j) for j in range(len(raised) - 2)])
                self.same(height_row(raised, spot), spot.row)

    def test_bowls_and_domes(self):
        for k, bowl in enumerate(many_bowls()[::4]):
            for spot in drawn_spots(bowl.floor, k, 3):
                self.same([height_row(bowl, spot), height_row(-bowl, spot)], [spot.row, spot.row])
        spot = Spot(Floor(SAMPLE), 2, 1)
        self.same(height_row(Raised(Floor(SAMPLE), DEEP), spot), [1, 1])
        self.new_each_time(height_row, Raised(Floor(SAMPLE), DEEP), spot)

    def test_points_in_circles(self):
        for k, floor in enumerate([Floor(ROUND[:n]) for n in range(3, 11)] + all_floors()[8:16]):
            try:
                bowl = Bowl.circular(floor)
            except ValueError:
                continue
            for spot in drawn_spots(floor, k, 3):
                counts = [len(inside_circle(floor, *three)) for three in spot.triangles()]
                self.same(height_row(bowl, spot), [counts.count(j) for j in range(len(floor) - 2)])


class Triangles(Case):
    def test_one_of_each_net(self):
        found = 0
        for k, raised in enumerate(everything()):
            below = belows(raised)
            for spot in drawn_spots(raised.floor, k, 4):
                around = triangles_told(spot)
                low = [three for three in around if len(below[three]) == 0]
                high = [three for three in around if len(below[three]) == len(raised) - 3]
                self.same([len(low), len(high)], [1, 1] if spot.inside else [0, 0])
                self.same(low_triangle(raised, spot), low[0] if low else None)
                self.same(high_triangle(raised, spot), high[0] if high else None)
                found += spot.inside
        self.assertTrue(found > 30)

    def test_lowest_and_highest_above_the_spot(self):
        for k, raised in enumerate(everything()[::3]):
            for spot in drawn_spots(raised.floor, k + 7, 4):
                if spot.inside:
                    heights = {three: height_at(raised, three, spot) for three in triangles_told(spot)}
                    self.same(low_triangle(raised, spot), min(heights, key=heights.get))
                    self.same(high_triangle(raised, spot), max(heights, key=heights.get))

    def test_known(self):
        floor = Floor(SAMPLE)
        spot = Spot(floor, 2, 1)
        deep, high = Raised(floor, DEEP), Raised(floor, [0, 0, 0, 5])
        self.same([low_triangle(deep, spot), high_triangle(deep, spot)], [(1, 2, 3), (0, 1, 2)])
        self.same([low_triangle(high, spot), high_triangle(high, spot)], [(0, 1, 2), (1, 2, 3)])
        self.same([act(deep, Spot(floor, 9, 8)) for act in ACTS], [[0, 0], None, None])


class OtherFloors(Case):
    def test_floors_that_differ(self):
        points = ROUND[:5]
        spot = Spot(Floor(points), 3, 8, scale=2)
        for other in (ROUND[:4], ROUND[:6], ROUND[:4] + [(4, 17)], [*points[1:], points[0]], points[::-1]):
            raised = Raised(Floor(other), scattered_heights(Floor(other), 3, 100))
            for act in ACTS:
                self.refuses(OtherFloor(), act, raised, spot)
                self.refuses(OtherFloor(), act, raised, Spot(Floor(points), 1, 400))

    def test_an_equal_floor(self):
        spot = Spot(Floor(ROUND[:5]), 3, 8, scale=2)
        raised = Raised(Floor(tuple(ROUND[:5])), scattered_heights(Floor(ROUND[:5]), 3, 100))
        for act in ACTS:
            self.same(act(raised, spot), act(raised, Spot(raised.floor, 3, 8, scale=2)))
