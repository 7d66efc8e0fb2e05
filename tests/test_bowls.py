"""Point 28, with points 23 and 24 for bowls."""

from itertools import combinations

from everybowl.bowls import Bowl
from everybowl.errors import NoPoint, NotBowl, OnLine, OnPlane, OtherFloor, Repeated, TooFar, WrongCount
from everybowl.floors import Floor
from everybowl.nets import lower_net, upper_net
from everybowl.raised import Raised
from everybowl.rims import corners
from everybowl.touches import first_high, touching
from tests.heights import (
    DEEP, HIGH, HUGE, bowl_heights, extreme_raised, fraction, is_general, many_bowls, many_raised, pairs_beyond,
    places_of, scattered_heights,
)
from tests.helpers import FAR, NESTED, ROUND, SAMPLE, WIDE, Case, all_floors, doubled

SQUARE = [(0, 0), (1, 0), (0, 1), (1, 1)]


class BowlCase(Case):
    def is_bowl(self, got, points, heights):
        self.assertIs(got.__class__, Bowl)
        self.assertIs(got.floor.__class__, Floor)
        self.same((got.floor.points, got.heights), (tuple(points), tuple(heights)))


def on_circle(p, q, r, s):
    """Whether four points lie on a circle, by the distances from the first one."""
    rows = [(x - p[0], y - p[1]) for x, y in (q, r, s)]
    (a, b), (c, d), (e, f) = rows
    return a * (d * (e * e + f * f) - f * (c * c + d * d)) - b * (c * (e * e + f * f) - e * (c * c + d * d)) + (
        a * a + b * b) * (c * f - d * e) == 0


def first_on_circle(floor):
    found = [four for four in combinations(range(len(floor)), 4) if on_circle(*[floor[k] for k in four])]
    return found[0] if found else None


class Making(BowlCase):
    def test_bowls(self):
        for floor in all_floors():
            heights = bowl_heights(floor, 4)
            for given in (heights, tuple(heights)):
                bowl = Bowl(floor, given)
                self.is_bowl(bowl, floor.points, heights)
                self.assertIsInstance(bowl, Raised)
                self.same(len(bowl), len(floor))
        self.same([Bowl.HIGH, Bowl(Floor(SAMPLE), DEEP).HIGH], [HIGH, HIGH])

    def test_not_bowl_with_the_first_high_pair(self):
        refused = 0
        for raised in [*many_raised(), *extreme_raised()]:
            pairs = [pair for pair, _ in pairs_beyond(raised, 1)]
            if pairs:
                self.refuses(NotBowl(*pairs[0]), Bowl, raised.floor, list(raised.heights))
                refused += 1
            else:
                self.is_bowl(Bowl(raised.floor, raised.heights), raised.floor.points, raised.heights)
        self.assertTrue(refused > 40)
        self.refuses(NotBowl((0, 1, 2), 3), Bowl, Floor(SAMPLE), [0, 0, 0, 5])

    def test_errors_in_order(self):
        floor = Floor(SAMPLE)
        for count in (0, 3, 5, 40):
            self.refuses(WrongCount(count), Bowl, floor, [HIGH + 1] * count)
        for wrong in (HIGH + 1, -HIGH - 1, HUGE):
            self.refuses(TooFar(wrong), Bowl, floor, [0, 0, wrong, HUGE + 1])
            self.refuses(TooFar(wrong), Bowl, Floor(ROUND), [0] * 9 + [wrong])
        # The first four on a plane, although there are high pairs, too.
        points = [*SAMPLE, (2, 1), (9, 30)]
        self.refuses(OnPlane((0, 1, 2, 4)), Bowl, Floor(points), [0, 0, 0, 5, 0, 1])
        self.refuses(NotBowl((0, 1, 2), 3), Bowl, Floor(points), [0, 0, 0, 5, 7, 1])

    def test_lists_are_copied(self):
        heights = list(DEEP)
        bowl = Bowl(Floor(SAMPLE), heights)
        heights[3] = 99
        self.is_bowl(bowl, SAMPLE, DEEP)

    def test_ends_of_the_range(self):
        self.is_bowl(Bowl(Floor(SAMPLE), [HIGH, HIGH, HIGH, -HIGH]), SAMPLE, [HIGH, HIGH, HIGH, -HIGH])


class Circular(BowlCase):
    def test_heights(self):
        made = 0
        for floor in all_floors():
            four = first_on_circle(floor)
            if four is None:
                self.is_bowl(Bowl.circular(floor), floor.points, [x * x + y * y for x, y in floor.points])
                made += 1
            else:
                self.refuses(OnPlane(four), Bowl.circular, floor)
        self.assertTrue(30 < made < len(all_floors()))

    def test_first_four_on_a_circle(self):
        self.refuses(OnPlane((0, 1, 2, 3)), Bowl.circular, Floor(SQUARE))
        self.refuses(OnPlane((0, 1, 2, 3)), Bowl.circular, Floor(WIDE[:4]))
        self.refuses(OnPlane((1, 2, 3, 4)), Bowl.circular, Floor([(5, 7), *SQUARE]))
        self.refuses(OnPlane((0, 2, 3, 4)), Bowl.circular, Floor([(0, 0), (5, 7), *SQUARE[1:]]))
        # (0, 5), (3, 4), (4, 3), (5, 0) and (-3, 4) lie on a circle around (0, 0).
        ring = [(1, 3), (0, 5), (3, 4), (4, 3), (5, 0), (-3, 4)]
        self.refuses(OnPlane((1, 2, 3, 4)), Bowl.circular, Floor(ring))
        self.refuses(OnPlane((0, 1, 3, 4)), Bowl.circular, Floor([*ring[4:], ring[0], *ring[1:4]]))

    def test_off_the_class_and_off_an_object(self):
        self.is_bowl(Bowl(Floor(SAMPLE), DEEP).circular(Floor(ROUND[:3])), ROUND[:3], [0, 2, 20])


class Sum(BowlCase):
    def test_heights(self):
        for floor in all_floors()[::2]:
            first, second = Bowl(floor, bowl_heights(floor, 3)), Bowl(floor, bowl_heights(floor, 8))
            sums = [a + b for a, b in zip(first.heights, second.heights)]
            if is_general(floor, sums) and max(sums) <= HIGH:
                self.is_bowl(first + second, floor.points, sums)
                self.slopes_add_up(first, second)

    def slopes_add_up(self, first, second):
        total = places_of(first + second)
        for number in range(len(first)):
            slopes = [fraction(a) + fraction(b) for a, b in zip(touching(first, number), touching(second, number))]
            costs = [z - slopes[0] * x - slopes[1] * y for x, y, z in total]
            self.assertTrue(all(costs[number] < cost for k, cost in enumerate(costs) if k != number))

    def test_to_the_bound_and_one_beyond(self):
        half = Bowl(Floor(SAMPLE), [0, HIGH // 2, HIGH // 2, 5])
        more = Bowl(Floor(SAMPLE), [0, HIGH // 2 + 1, HIGH // 2, 5])
        self.is_bowl(half + half, SAMPLE, [0, HIGH, HIGH, 10])
        self.refuses(TooFar(HIGH + 1), lambda: half + more)
        self.refuses(TooFar(HIGH + 1), lambda: more + half)
        self.refuses(TooFar(HIGH + 2), lambda: more + more)
        low = Bowl(Floor(SAMPLE), [0, 0, 0, -HIGH])
        self.refuses(TooFar(-2 * HIGH), lambda: low + low)
        self.refuses(TooFar(-HIGH - 1), lambda: Bowl(Floor(SAMPLE), [0, 7, 7, -1]) + low)

    def test_other_floor_first(self):
        far = Bowl(Floor(SAMPLE), [0, HIGH, HIGH, 5])
        for points in (SAMPLE[::-1], SAMPLE[:3], [*SAMPLE, (7, 9)], [(0, 0), (4, 0), (0, 4), (1, 2)]):
            floor = Floor(points)
            other = Bowl(floor, bowl_heights(floor, 2))
            for act in (lambda: far + other, lambda: other + far, lambda: far | other, lambda: other | far):
                self.refuses(OtherFloor(), act)
        self.is_bowl(Bowl(Floor(SAMPLE), DEEP) + Bowl(Floor.of(*SAMPLE), DEEP), SAMPLE, [2 * z for z in DEEP])

    def test_on_plane(self):
        floor = Floor(SQUARE)
        self.refuses(OnPlane((0, 1, 2, 3)), lambda: Bowl(floor, [0, 0, 0, 1]) + Bowl(floor, [0, 0, 0, -1]))
        five = Floor([(9, 23), *SQUARE])
        self.refuses(OnPlane((1, 2, 3, 4)), lambda: Bowl(five, [5000, 0, 0, 0, 1]) + Bowl(five, [5000, 0, 0, 0, -1]))
        # A height out of range comes first.
        self.refuses(TooFar(HIGH + 1), lambda: Bowl(five, [HIGH, 0, 0, 0, 1]) + Bowl(five, [1, 0, 0, 0, -1]))


class Multiple(BowlCase):
    def test_heights(self):
        for bowl in many_bowls()[::3]:
            for m in (1, 2, 1000):
                heights = [z * m for z in bowl.heights]
                wrong = [z for z in heights if abs(z) > HIGH]
                if wrong:
                    self.refuses(TooFar(wrong[0]), lambda: bowl * m)
                else:
                    self.is_bowl(bowl * m, bowl.floor.points, heights)

    def test_range_of_m(self):
        bowl = Bowl(Floor(SAMPLE), [HIGH, HIGH, HIGH, -HIGH])
        for m in (0, 1001, -1, HUGE, -HUGE):
            self.refuses(TooFar(m), lambda: bowl * m)
            self.refuses(TooFar(m), lambda: Bowl(Floor(SAMPLE), DEEP) * m)
        self.is_bowl(bowl * 1, SAMPLE, bowl.heights)
        self.refuses(TooFar(2 * HIGH), lambda: bowl * 2)

    def test_to_the_bound_and_one_beyond(self):
        bowl = Bowl(Floor(SAMPLE), [0, HIGH // 1000, 7, -3])
        self.is_bowl(bowl * 1000, SAMPLE, [0, HIGH, 7000, -3000])
        self.refuses(TooFar(HIGH + 1000), lambda: Bowl(Floor(SAMPLE), [0, 7, HIGH // 1000 + 1, -3]) * 1000)
        one_beyond = 90909090909091
        self.same(11 * one_beyond, HIGH + 1)
        self.refuses(TooFar(HIGH + 1), lambda: Bowl(Floor(SAMPLE), [0, 7, one_beyond, -3]) * 11)
        self.refuses(TooFar(-HIGH - 1), lambda: Bowl(Floor(SAMPLE), [0, 7, 9, -one_beyond]) * 11)
        self.is_bowl(Bowl(Floor(SAMPLE), [0, 7, 9, -one_beyond]) * 10, SAMPLE, [0, 70, 90, -10 * one_beyond])


class Greatest(BowlCase):
    def test_heights(self):
        mixed = 0
        for floor in all_floors():
            first = Bowl(floor, bowl_heights(floor, 3))
            second = Bowl(floor, bowl_heights(floor, 8)).tilted(1, -2, 5)
            heights = [max(pair) for pair in zip(first.heights, second.heights)]
            mixed += tuple(heights) not in (first.heights, second.heights)
            if is_general(floor, heights):
                self.is_bowl(first | second, floor.points, heights)
                self.is_bowl(second | first, floor.points, heights)
        self.assertTrue(mixed > 20)

    def test_on_plane(self):
        floor = Floor(SQUARE)
        first, second = Bowl(floor, [0, -9, 0, 5]), Bowl(floor, [-9, 0, -9, -5])
        self.refuses(OnPlane((0, 1, 2, 3)), lambda: Bowl(floor, [0, -9, 0, 0]) | second)
        self.is_bowl(first | second, SQUARE, [0, 0, 0, 5])


class OtherMethods(BowlCase):
    def test_only(self):
        bowl = Bowl(Floor(NESTED), bowl_heights(Floor(NESTED), 4))
        for size in range(3, 11):
            for numbers in list(combinations(range(10), size))[::17]:
                for order in (numbers, numbers[::-1], list(numbers[1:] + numbers[:1])):
                    self.is_bowl(bowl.only(order), [NESTED[k] for k in order], [bowl.heights[k] for k in order])
        sample = Bowl(Floor(SAMPLE), DEEP)
        for numbers in ([], [0, 1], [-1] * 5):
            self.refuses(WrongCount(len(numbers)), sample.only, numbers)
        self.refuses(NoPoint(4), sample.only, [0, 4, 0])
        self.refuses(Repeated(0), sample.only, (0, 0, 4))

    def test_without(self):
        for bowl in many_bowls():
            points, heights = bowl.floor.points, bowl.heights
            for k in range(len(bowl)):
                if len(bowl) > 3:
                    self.is_bowl(bowl.without(k), points[:k] + points[k + 1:], heights[:k] + heights[k + 1:])
                else:
                    self.refuses(WrongCount(2), bowl.without, k)
            for wrong in (-1, len(bowl), HUGE):
                self.refuses(NoPoint(wrong), bowl.without, wrong)

    def test_tilted(self):
        for bowl in many_bowls()[1::2]:
            for a, b, c in ((0, 0, 0), (1, -2, 3), (FAR, FAR, -10 ** 12)):
                heights = [a * x + b * y + c + z for x, y, z in places_of(bowl)]
                self.is_bowl(bowl.tilted(a, b, c), bowl.floor.points, heights)
        sample = Bowl(Floor(SAMPLE), [HIGH - 1, HIGH, HIGH, 5])
        for wrong in (FAR + 1, -FAR - 1, HUGE):
            self.refuses(TooFar(wrong), sample.tilted, wrong, HUGE + 1, HUGE + 2)
            self.refuses(TooFar(wrong), sample.tilted, 0, wrong, HUGE + 2)
        self.refuses(TooFar(10 ** 12 + 1), sample.tilted, FAR, FAR, 10 ** 12 + 1)
        self.refuses(TooFar(HIGH + 1), sample.tilted, 0, 0, 2)
        self.refuses(TooFar(HIGH + 4), sample.tilted, 1, 0, 0)

    def test_plus(self):
        for n in range(3, 10):
            floor = Floor(NESTED[:n + 1])
            heights = bowl_heights(floor, 5)
            bowl = Bowl(Floor(NESTED[:n]), heights[:n])
            self.is_bowl(bowl.plus(NESTED[n], heights[n]), NESTED[:n + 1], heights)
            self.refused_as_no_bowl(bowl, NESTED[n], HIGH)
            self.refused_as_no_bowl(bowl, (1000, 977), -HIGH)

    def refused_as_no_bowl(self, bowl, point, height):
        more = Raised(bowl.floor, bowl.heights).plus(point, height)
        pairs = [pair for pair, _ in pairs_beyond(more, 1)]
        if pairs:
            self.refuses(NotBowl(*pairs[0]), bowl.plus, point, height)
        else:
            self.is_bowl(bowl.plus(point, height), more.floor.points, more.heights)

    def test_plus_errors_in_order(self):
        sample, full = Bowl(Floor(SAMPLE), DEEP), Bowl.circular(Floor(ROUND))
        for bowl in (sample, full):
            for wrong in (FAR + 1, -FAR - 1, HUGE):
                self.refuses(TooFar(wrong), bowl.plus, (wrong, HUGE + 1), HUGE + 2)
                self.refuses(TooFar(wrong), bowl.plus, (0, wrong), HUGE + 2)
            for wrong in (HIGH + 1, -HIGH - 1, HUGE):
                self.refuses(TooFar(wrong), bowl.plus, (0, 0), wrong)
        self.refuses(WrongCount(11), full.plus, (0, 0), 5)
        self.refuses(OnLine((0, 1, 4)), sample.plus, (2, 0), HIGH)
        self.refuses(OnPlane((0, 1, 2, 4)), sample.plus, (1, 2), 12)
        self.refuses(NotBowl((0, 1, 2), 4), sample.plus, (1, 2), 13)
        self.refuses(NotBowl((1, 2, 3), 4), sample.plus, (1, 2), 10)
        self.is_bowl(sample.plus((1, 2), 8), [*SAMPLE, (1, 2)], [*DEEP, 8])

    def test_negative_is_a_plain_raised(self):
        for bowl in many_bowls():
            down = -bowl
            self.assertIs(down.__class__, Raised)
            self.same((down.floor.points, down.heights), (bowl.floor.points, tuple([-z for z in bowl.heights])))

    def test_equal_to_a_plain_raised(self):
        bowl, plain = Bowl(Floor(SAMPLE), DEEP), Raised(Floor(SAMPLE), DEEP)
        for first, second in ((bowl, plain), (plain, bowl), (bowl, Bowl(Floor(SAMPLE), DEEP)), (bowl, -(-bowl))):
            self.assertIs(first == second, True)
            self.assertIs(first != second, False)
        for other in (Raised(Floor(SAMPLE), [0, 16, 16, 3]), -bowl, Floor(SAMPLE), tuple(DEEP), None,
                      Bowl(Floor(SAMPLE), [0, 16, 16, 3]), Bowl(Floor(SAMPLE[::-1]), DEEP[::-1])):
            self.assertIs(bowl == other, False)
            self.assertIs(other == bowl, False)

    def test_what_a_raised_has(self):
        bowl, plain = Bowl(Floor(SAMPLE), DEEP), Raised(Floor(SAMPLE), DEEP)
        self.same([bowl.over(0, 1, 2, 3), bowl.below(0, 1, 2), bowl.above(1, 2, 3)],
                  [plain.over(0, 1, 2, 3), plain.below(0, 1, 2), plain.above(1, 2, 3)])
        self.same([part.text() for part in bowl.plane(0, 1, 2)], ["4", "4", "0"])
        self.refuses(NoPoint(4), bowl.below, 0, 1, 4)

    def test_bowls_stay(self):
        first, second = Bowl(Floor(SAMPLE), DEEP), Bowl(Floor(SAMPLE), [5, 0, 0, 0])
        for act in (lambda: first + second, lambda: first | second, lambda: first * 3, lambda: -first,
                    lambda: first.tilted(1, 1, 1), lambda: first.only([3, 2, 1]), lambda: first.without(0),
                    lambda: first.plus((1, 2), 8)):
            act()
            self.is_bowl(first, SAMPLE, DEEP)
            self.is_bowl(second, SAMPLE, [5, 0, 0, 0])


class UpperNet(BowlCase):
    def test_of_corners_alone(self):
        for bowl in many_bowls():
            edge = corners(bowl.floor)
            net = upper_net(bowl)
            self.same(len(net), len(edge) - 2)
            self.assertTrue(all(set(three) <= set(edge) for three in net))
            self.same(sum(abs(doubled(*[bowl.floor[k] for k in three])) for three in lower_net(bowl)),
                      sum(abs(doubled(*[bowl.floor[k] for k in three])) for three in net))
            self.assertIs(first_high(bowl), None)

    def test_scattered_heights_are_rarely_bowls(self):
        floor = Floor(NESTED)
        self.assertTrue(first_high(Raised(floor, scattered_heights(floor, 9, 1000))) is not None)
