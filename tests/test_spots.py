"""Points 46 to 48, 50 and 51: spots."""

from fractions import Fraction
from functools import cmp_to_key, lru_cache
from itertools import combinations
from math import comb, gcd

from everybowl.bowls import Bowl
from everybowl.errors import NoSize, OnLine, TooFar
from everybowl.floors import Floor
from everybowl.planerows import inner_row
from everybowl.ratios import Ratio
from everybowl.spots import Spot
from everybowl.tables import bends
from tests.heights import HUGE, bowl_heights, fraction, sign, subsets_of
from tests.helpers import FAR, NESTED, ROUND, SAMPLE, WIDE, Case, all_floors, doubled, scattered, scattered_points

FARTHEST = 10 ** 12


def place_of(spot):
    return (fraction(spot.x), fraction(spot.y))


def is_free(floor, place):
    """Whether the place is on no line through two points."""
    return all(doubled(place, p, q) != 0 for p, q in combinations(floor.points, 2))


def drawn_spots(floor, seed, count):
    """Spots inside, near and far from the points, with several scales."""
    source, found = scattered(seed), []
    x, y = max([abs(x) for x, y in floor.points]) + 1, max([abs(y) for x, y in floor.points]) + 1
    while len(found) < count:
        scale = (1, 2, 7, 1000, 10 ** 6)[len(found) % 5]
        wide = 4 if len(found) % 4 == 3 else 1
        place = [next(source) * 2 ** 31 % (2 * wide * far * scale + 1) - wide * far * scale for far in (x, y)]
        if len(found) % 3 == 0:
            place = inner_place(floor, source, scale)
        if max(map(abs, place)) <= FARTHEST and is_free(floor, [Fraction(part, scale) for part in place]):
            found.append(Spot(floor, *place, scale=scale))
    return found


def inner_place(floor, source, scale):
    """The middle of some three points, in parts of the scale."""
    three = list(combinations(floor.points, 3))
    points = three[next(source) % len(three)]
    return [sum(point[k] for point in points) * scale // 3 + next(source) % 3 for k in (0, 1)]


@lru_cache(maxsize=None)
def many_spots():
    return [spot for k, floor in enumerate(all_floors()) for spot in drawn_spots(floor, k, 6)]


def triangles_told(spot):
    """The triangles on whose three sides the spot is on the same side."""
    points, place = spot.floor.points, place_of(spot)
    return [three for three in combinations(range(len(points)), 3) if len({
        sign(doubled(points[three[k]], points[three[(k + 1) % 3]], place)) for k in range(3)}) == 1]


class Attributes(Case):
    def test_place(self):
        for spot in many_spots():
            for part in (spot.x, spot.y):
                self.assertIs(part.__class__, Ratio)
                self.assertTrue(gcd(part.top, part.bottom) == 1 and part.bottom > 0)
        floor = Floor(SAMPLE)
        spot = Spot(floor, 6, -9, scale=4)
        self.same([spot.x.text(), spot.y.text()], ["3/2", "-9/4"])
        self.assertTrue(spot.floor == floor and spot.floor.__class__ is Floor)
        spot = Spot(floor, -8, 0 + 10, scale=2)
        self.same([spot.x.top, spot.x.bottom, spot.y.top, spot.y.bottom], [-4, 1, 5, 1])
        spot = Spot(floor, 2, 1)
        self.same([spot.x.text(), spot.y.text()], ["2", "1"])

    def test_spokes(self):
        for spot in many_spots():
            points, place = spot.floor.points, place_of(spot)
            start = points[0]

            def half(k):
                return 0 if k == 0 else 1 if doubled(place, start, points[k]) > 0 else 2

            def compared(a, b):
                return half(a) - half(b) or -sign(doubled(place, points[a], points[b]))

            self.same(spot.spokes, tuple(sorted(range(len(points)), key=cmp_to_key(compared))))

    def test_lefts(self):
        for spot in many_spots():
            points, place, n = spot.floor.points, place_of(spot), len(spot.floor)
            wanted = tuple([len([1 for c in points if doubled(place, p, c) > 0]) for p in points])
            self.same(spot.lefts, wanted)
            self.assertEqual(sum(spot.lefts), comb(n, 2))
            self.same([spot.lefts.count(s) for s in range(n)], [spot.lefts.count(n - 1 - s) for s in range(n)])

    def test_known(self):
        # A square, seen from near its middle.
        spot = Spot(Floor([(2, 2), (-2, 3), (-2, -2), (2, -3)]), 1, 2, scale=10)
        self.same([spot.spokes, spot.inside, spot.row], [(0, 1, 2, 3), True, [1, 1]])
        spot = Spot(Floor([(2, 2), (2, -3), (-2, 3), (-2, -2)]), 1, 2, scale=10)
        self.same(spot.spokes, (0, 2, 3, 1))
        spot = Spot(Floor(SAMPLE), 9, 8)
        self.same([spot.spokes, spot.inside, spot.row, spot.triangles()], [(0, 1, 2, 3), False, [0, 0], []])

    def test_lists_that_are_passed_and_returned(self):
        spot = Spot(Floor(SAMPLE), 2, 1)
        spot.row.append(5)
        self.same(spot.row, [1, 1])
        self.new_each_time(spot.triangles)


class Around(Case):
    def test_inside_and_triangles(self):
        found = []
        for spot in many_spots():
            wanted = triangles_told(spot)
            self.same(spot.triangles(), wanted)
            self.same(spot.inside, wanted != [])
            found.append(spot.inside)
            if len(spot.floor) % 2 == 0:
                self.assertEqual(len(wanted) % 2, 0)
        self.assertTrue(found.count(True) > 50 and found.count(False) > 50)

    def test_every_size(self):
        for spot in many_spots()[::2]:
            n, triangles = len(spot.floor), [set(three) for three in triangles_told(spot)]
            counts = [0] * (n + 1)
            for subset in subsets_of(n):
                counts[len(subset)] += any(three <= set(subset) for three in triangles)
            self.same([spot.around(size) for size in range(n + 1)], counts)
            self.same(counts[3:], [comb(n, m) - sum(comb(left, m - 1) for left in spot.lefts)
                                   for m in range(3, n + 1)])

    def test_no_size(self):
        for spot in many_spots()[::30]:
            for wrong in (-1, len(spot.floor) + 1, HUGE, -HUGE):
                self.refuses(NoSize(wrong), spot.around, wrong)


class Row(Case):
    def test_row_of_some_heights(self):
        for k, spot in enumerate(many_spots()[::3]):
            bowl = Bowl(spot.floor, bowl_heights(spot.floor, k))
            counts = [len(bowl.below(*three)) for three in triangles_told(spot)]
            self.same(spot.row, [counts.count(j) for j in range(len(spot.floor) - 2)])

    def test_facts(self):
        for spot in many_spots():
            n, row = len(spot.floor), spot.row
            self.same(row, row[::-1])
            self.same(row[0] == 1, spot.inside)
            self.same(any(row), spot.inside)
            self.same(bends(row), [1 - spot.lefts.count(s) for s in range(n)])
            self.same([spot.around(m) for m in range(3, n + 1)],
                      [sum(row[j] * comb(n - 3 - j, m - 3) for j in range(n - 2)) for m in range(3, n + 1)])

    def test_points_moved_along_their_spokes(self):
        moved = 0
        for k, spot in enumerate(many_spots()):
            if spot.x.bottom == spot.y.bottom == 1 and max(map(abs, (spot.x.top, spot.y.top))) < 1000:
                factors = [(k + 3 * at) % 7 + 1 for at in range(len(spot.floor))]
                points = [(spot.x.top + m * (x - spot.x.top), spot.y.top + m * (y - spot.y.top))
                          for m, (x, y) in zip(factors, spot.floor.points)]
                if max(abs(part) for point in points for part in point) <= FAR and all(
                        doubled(*three) for three in combinations(points, 3)):
                    other = Spot(Floor(points), spot.x.top, spot.y.top)
                    self.same([other.row, other.lefts, other.spokes], [spot.row, spot.lefts, spot.spokes])
                    moved += 1
        self.assertTrue(moved > 10)

    def test_points_as_spots(self):
        for floor in all_floors():
            if len(floor) > 3:
                rows = [Spot(floor.without(k), *floor[k]).row for k in range(len(floor))]
                bowl = Bowl(floor, bowl_heights(floor, 3))
                self.same([sum(column) for column in zip(*rows)], inner_row(bowl))


class Crossing(Case):
    def test_line_crossed(self):
        """Point 50: over the line of two points, and no other one, from its left to its right."""
        crossed = {"between": 0, "outside": 0, "rise": 0, "fall": 0, "stay": 0}
        floors = [Floor(scattered_points(n, 5 * n + k, 40)) for n in range(3, 11) for k in range(3)]
        for k, floor in enumerate([*floors, Floor(SAMPLE), Floor(NESTED[:8]), Floor(ROUND[:7])]):
            for a, b in combinations(range(len(floor)), 2):
                for part in ((2, 5), (-3, 10), (13, 10), (47, 100)):
                    first, last = (a, b) if (a + b + k) % 2 else (b, a)
                    before, after = beside(floor, first, last, part)
                    if before is not None:
                        self.crosses(before, after, first, last, 0 < part[0] < part[1], crossed)
        self.assertTrue(min(crossed.values()) > 20, crossed)

    def crosses(self, before, after, a, b, is_between, crossed):
        floor, n = before.floor, len(before.floor)
        left, right = len(floor.left_of(a, b)), len(floor.left_of(b, a))
        lefts, row = list(before.lefts), before.row
        if is_between:
            self.same([lefts[b], lefts[a]], [left, right + 1])
            lefts[b], lefts[a] = left + 1, right
            step = 1 if left < right else -1
            for place in range(min(left, right), max(left, right)):
                row[place] += step
            crossed["rise" if left < right else "fall" if left > right else "stay"] += 1
        else:
            lefts[a], lefts[b] = lefts[b], lefts[a]
        crossed["between" if is_between else "outside"] += 1
        self.same([after.lefts, after.row], [tuple(lefts), row])


def beside(floor, a, b, part):
    """Two spots close to the line of two points, on its left and on its right, if no other line is between them."""
    (ax, ay), (bx, by) = floor.points[a], floor.points[b]
    scale, (top, bottom) = 10 ** 6, part
    x, y = [(p * bottom + (q - p) * top) * (scale // bottom) for p, q in ((ax, bx), (ay, by))]
    ways = [(x - side * (by - ay), y + side * (bx - ax)) for side in (1, -1)]
    fine = [(px * scale, py * scale) for px, py in floor.points]
    for c, d in combinations(range(len(floor)), 2):
        signs = [sign(doubled(fine[c], fine[d], way)) for way in ways]
        if 0 in signs or (signs[0] != signs[1]) != ({c, d} == {a, b}):
            return None, None
    return [Spot(floor, *way, scale=scale) for way in ways]


class Wrong(Case):
    def test_too_far(self):
        floor = Floor(SAMPLE)

        def spot(x, y, scale):
            return Spot(floor, x, y, scale=scale)

        for wrong in (FARTHEST + 1, -FARTHEST - 1, HUGE, -HUGE):
            self.refuses(TooFar(wrong), spot, wrong, 10 ** 30, 0)
            self.refuses(TooFar(wrong), spot, 0, wrong, 0)
        for wrong in (0, -1, 10 ** 6 + 1, HUGE, -HUGE):
            self.refuses(TooFar(wrong), spot, 0, 0, wrong)
        for x, y, scale in ((FARTHEST, 1, 1), (-FARTHEST, FARTHEST - 1, 10 ** 6), (3, FARTHEST, 10 ** 6),
                            (7, -FARTHEST, 1), (FARTHEST, FARTHEST - 7, 10 ** 6)):
            got = spot(x, y, scale)
            self.assertTrue(place_of(got) == (Fraction(x, scale), Fraction(y, scale)))

    def test_ends_of_the_ranges(self):
        for floor in (Floor(WIDE), Floor(WIDE[:3]), Floor(NESTED)):
            for x, y in ((FARTHEST, 17), (-FARTHEST, 29 - FARTHEST), (FARTHEST - 5, FARTHEST), (11, -FARTHEST)):
                for scale in (1, 10 ** 6 - 3, 10 ** 6 - 1):
                    spot = Spot(floor, x, y, scale=scale)
                    self.same(spot.triangles(), triangles_told(spot))
                    place = place_of(spot)
                    self.same(spot.lefts, tuple([len([1 for c in floor if doubled(place, p, c) > 0]) for p in floor]))

    def test_on_line(self):
        floor = Floor([(0, 0), (4, 0), (0, 4), (1, 1)])
        for place, pair in (((2, 0), (0, 1)), ((-7, 0), (0, 1)), ((0, 0), (0, 1)), ((4, 0), (0, 1)), ((0, 4), (0, 2)),
                            ((1, 1), (0, 3)), ((3, 1), (1, 2)), ((2, 2), (0, 3)), ((-2, 2), (1, 3)), ((2, -2), (2, 3))):
            self.refuses(OnLine(pair), Spot, floor, *place)
            self.refuses(OnLine(pair), lambda: Spot(floor, 7 * place[0], 7 * place[1], scale=7))
        for k, floor in enumerate(all_floors()):
            for a, b in list(combinations(range(len(floor)), 2))[::5]:
                (ax, ay), (bx, by) = floor.points[a], floor.points[b]
                for top in (0, 1, 2, 3, 6):
                    x, y = 3 * ax + top * (bx - ax), 3 * ay + top * (by - ay)
                    first = [pair for pair in combinations(range(len(floor)), 2) if doubled(
                        *[(3 * px, 3 * py) for px, py in [floor.points[c] for c in pair]], (x, y)) == 0][0]
                    self.refuses(OnLine(first), lambda: Spot(floor, x, y, scale=3))
        # The scale is looked at before the lines.
        self.refuses(TooFar(0), lambda: Spot(Floor(SAMPLE), 0, 0, scale=0))

    def test_scale_by_keyword_only(self):
        with self.assertRaises(TypeError):
            Spot(Floor(SAMPLE), 2, 1, 1)
