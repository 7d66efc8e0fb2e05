"""Points 23 and 24: raised points."""

from itertools import combinations, permutations

from everybowl.errors import NoPoint, OnLine, OnPlane, Repeated, TooFar, WrongCount
from everybowl.floors import Floor
from everybowl.raised import Raised
from everybowl.ratios import Ratio
from tests.heights import DEEP, HIGH, HUGE, all_raised, places_of, rise, scattered_heights, sign, slopes
from tests.helpers import FAR, NESTED, ROUND, SAMPLE, WIDE, Case, all_floors


class RaisedCase(Case):
    def is_raised(self, got, points, heights):
        self.assertIs(got.__class__, Raised)
        self.assertIs(got.floor.__class__, Floor)
        self.same((got.floor.points, got.heights), (tuple(points), tuple(heights)))


class Making(RaisedCase):
    def test_floor_heights_and_len(self):
        for floor in all_floors():
            heights = scattered_heights(floor, 3, 1000)
            for given in (heights, tuple(heights)):
                raised = Raised(floor, given)
                self.is_raised(raised, floor.points, heights)
                self.assertTrue(raised.floor == floor)
                self.same(len(raised), len(floor))

    def test_high(self):
        self.same(Raised.HIGH, 1000000000000000)
        self.same(Raised(Floor(SAMPLE), DEEP).HIGH, HIGH)

    def test_wrong_count(self):
        for n in (3, 4, 10):
            floor = Floor(NESTED[:n])
            for count in (0, 1, n - 1, n + 1, 40):
                self.refuses(WrongCount(count), Raised, floor, [HIGH + 1] * count)
                self.refuses(WrongCount(count), Raised, floor, (0,) * count)

    def test_too_far(self):
        floor = Floor(SAMPLE)
        for wrong in (HIGH + 1, -HIGH - 1, HUGE, -HUGE):
            for at in range(4):
                self.refuses(TooFar(wrong), Raised, floor, [0] * at + [wrong] + [HUGE + 1] * (3 - at))
            # Before heights on a plane.
            self.refuses(TooFar(wrong), Raised, Floor(ROUND), [0] * 9 + [wrong])

    def test_ends_of_the_range(self):
        for heights in ([HIGH, HIGH, HIGH, -HIGH], [-HIGH, -HIGH, -HIGH, HIGH], [HIGH, -HIGH, HIGH, 0]):
            self.is_raised(Raised(Floor(SAMPLE), heights), SAMPLE, heights)
        self.is_raised(Raised(Floor(SAMPLE[:3]), [HIGH, -HIGH, HIGH]), SAMPLE[:3], [HIGH, -HIGH, HIGH])

    def test_on_plane(self):
        self.refuses(OnPlane((0, 1, 2, 3)), Raised, Floor(SAMPLE), [0, 0, 0, 0])
        self.refuses(OnPlane((0, 1, 2, 3)), Raised, Floor(SAMPLE), [0, 4, 8, 3])
        self.refuses(OnPlane((0, 1, 2, 3)), Raised, Floor(SAMPLE), (HIGH, HIGH, HIGH, HIGH))
        self.refuses(OnPlane((0, 1, 2, 3)), Raised, Floor(WIDE), [0] * 10)

    def test_first_four_on_a_plane(self):
        floor = Floor(NESTED)
        base = [7 * z for z in scattered_heights(floor, 8, 10 ** 6)]
        for four in combinations(range(10), 4):
            # The four lie on the plane with the height 0; others may happen to lie on a plane before them.
            heights = [0 if k in four else z for k, z in enumerate(base)]
            places = [(x, y, z) for (x, y), z in zip(NESTED, heights)]
            flat = [some for some in combinations(range(10), 4) if rise(places, *some) == 0]
            self.refuses(OnPlane(flat[0]), Raised, floor, heights)
        self.refuses(OnPlane((0, 1, 2, 6)), Raised, floor, [5, 5, 5, 8, 0, 1, 5, 5, 5, 5])

    def test_lists_are_copied(self):
        heights = list(DEEP)
        raised = Raised(Floor(SAMPLE), heights)
        heights[0] = 9
        heights.append(5)
        self.is_raised(raised, SAMPLE, DEEP)
        self.same(raised.below(0, 1, 2), [3])
        numbers = [3, 0, 1]
        only = raised.only(numbers)
        numbers.clear()
        self.is_raised(only, [(1, 1), (0, 0), (4, 0)], [2, 0, 16])
        for act in (raised.below, raised.above):
            self.new_each_time(act, 0, 1, 2)


class Equal(RaisedCase):
    def test_equal(self):
        raised = Raised(Floor(SAMPLE), DEEP)
        self.assertIs(raised == Raised(Floor.of(*SAMPLE), tuple(DEEP)), True)
        self.assertIs(raised != Raised(Floor(SAMPLE), DEEP), False)
        self.assertIs(raised == Raised(Floor(SAMPLE), [0, 16, 16, 3]), False)
        self.assertIs(raised == Raised(Floor([(0, 0), (4, 0), (0, 4), (1, 2)]), DEEP), False)
        self.assertIs(raised == Raised(Floor([(-x, y) for x, y in SAMPLE]), DEEP), False)
        self.assertIs(raised == Raised(Floor(SAMPLE[::-1]), DEEP[::-1]), False)
        self.assertIs(raised == -raised, False)
        self.assertIs(raised == -(-raised), True)

    def test_not_equal_to_others(self):
        raised = Raised(Floor(SAMPLE), DEEP)
        for other in (Floor(SAMPLE), tuple(DEEP), DEEP, (Floor(SAMPLE), tuple(DEEP)), None, 4):
            self.assertIs(raised == other, False)
            self.assertIs(other == raised, False)


class Planes(RaisedCase):
    def test_over_in_every_order(self):
        for raised in all_raised()[::3]:
            places = places_of(raised)
            for four in list(combinations(range(len(raised)), 4))[::3]:
                for order in permutations(four):
                    self.same(raised.over(*order), sign(rise(places, *order)))

    def test_below_and_above_in_every_order(self):
        for raised in all_raised():
            places, n = places_of(raised), len(raised)
            for three in combinations(range(n), 3):
                rest = [d for d in range(n) if d not in three]
                low = [d for d in rest if rise(places, *three, d) < 0]
                for order in permutations(three):
                    self.same(raised.below(*order), low)
                    self.same(raised.above(*order), [d for d in rest if d not in low])

    def test_plane_in_every_order(self):
        for raised in all_raised()[::2]:
            places = places_of(raised)
            for three in list(combinations(range(len(raised)), 3))[::2]:
                wanted = [(slope.numerator, slope.denominator) for slope in slopes(places, *three)]
                for order in permutations(three):
                    got = raised.plane(*order)
                    self.same([part.__class__ for part in got], [Ratio] * 3)
                    self.assertIs(got.__class__, tuple)
                    self.same([(part.top, part.bottom) for part in got], wanted)

    def test_plane_leads_through_its_points(self):
        for raised in all_raised()[::4]:
            for three in combinations(range(len(raised)), 3):
                alpha, beta, gamma = raised.plane(*three)
                for k in three:
                    x, y = raised.floor[k]
                    self.assertTrue(alpha * x + beta * y + gamma == Ratio(raised.heights[k]))

    def test_known(self):
        raised = Raised(Floor(SAMPLE), [1, 3, 4, 9])
        self.same([part.text() for part in raised.plane(0, 1, 2)], ["1/2", "3/4", "1"])
        self.same([part.text() for part in raised.plane(3, 1, 0)], ["1/2", "15/2", "1"])
        self.same([raised.over(0, 1, 2, 3), raised.over(1, 3, 2, 0)], [1, -1])
        self.same([raised.below(0, 1, 2), raised.above(0, 1, 2), raised.below(1, 2, 3)], [[], [3], [0]])

    def test_wrong_numbers(self):
        raised = Raised(Floor(SAMPLE), DEEP)
        for act in (raised.below, raised.above, raised.plane):
            for wrong in (-1, 4, HUGE, -HUGE):
                self.refuses(NoPoint(wrong), act, wrong, wrong, 9)
                self.refuses(NoPoint(wrong), act, 0, wrong, 0)
                self.refuses(NoPoint(wrong), act, 0, 1, wrong)
            self.refuses(Repeated(2), act, 2, 2, 9)
            self.refuses(Repeated(2), act, 2, 0, 2)
            self.refuses(Repeated(0), act, 2, 0, 0)
        for wrong in (-1, 4, HUGE, -HUGE):
            self.refuses(NoPoint(wrong), raised.over, wrong, wrong, 9, 9)
            self.refuses(NoPoint(wrong), raised.over, 0, wrong, 0, 0)
            self.refuses(NoPoint(wrong), raised.over, 0, 1, wrong, 0)
            self.refuses(NoPoint(wrong), raised.over, 0, 1, 2, wrong)
        self.refuses(Repeated(2), raised.over, 2, 2, 9, 9)
        self.refuses(Repeated(2), raised.over, 2, 0, 2, -1)
        for number in (0, 1, 2):
            self.refuses(Repeated(number), raised.over, 0, 1, 2, number)


class Only(RaisedCase):
    def test_in_any_order(self):
        heights = scattered_heights(Floor(NESTED), 4, HIGH)
        raised = Raised(Floor(NESTED), heights)
        for size in range(3, 11):
            for numbers in list(combinations(range(10), size))[::9]:
                for order in (numbers, numbers[::-1], list(numbers[1:] + numbers[:1])):
                    self.is_raised(raised.only(order), [NESTED[k] for k in order], [heights[k] for k in order])

    def test_errors_in_order(self):
        raised = Raised(Floor(SAMPLE), DEEP)
        for numbers in ([], [0, 1], [9, 9], [-1] * 5, [0, 1, 2, 3, 0]):
            self.refuses(WrongCount(len(numbers)), raised.only, numbers)
        self.refuses(NoPoint(4), raised.only, [0, 4, 0])
        self.refuses(NoPoint(-1), raised.only, (0, 1, -1))
        self.refuses(Repeated(0), raised.only, [0, 0, 4])
        self.refuses(Repeated(1), raised.only, [0, 1, 2, 1])


class Without(RaisedCase):
    def test_each_point(self):
        for raised in all_raised():
            points, heights = raised.floor.points, raised.heights
            for k in range(len(raised)):
                if len(raised) > 3:
                    self.is_raised(raised.without(k), points[:k] + points[k + 1:], heights[:k] + heights[k + 1:])
                else:
                    self.refuses(WrongCount(2), raised.without, k)

    def test_no_point_first(self):
        for n in (3, 4):
            for wrong in (-1, n, HUGE):
                self.refuses(NoPoint(wrong), Raised(Floor(SAMPLE[:n]), DEEP[:n]).without, wrong)


class Plus(RaisedCase):
    def test_one_more(self):
        heights = scattered_heights(Floor(NESTED), 6, HIGH)
        for n in range(3, 10):
            raised = Raised(Floor(NESTED[:n]), heights[:n])
            self.is_raised(raised.plus(NESTED[n], heights[n]), NESTED[:n + 1], heights[:n + 1])

    def test_ends_of_the_range(self):
        raised = Raised(Floor(SAMPLE), DEEP)
        for height in (HIGH, -HIGH):
            self.is_raised(raised.plus((FAR, 7 - FAR), height), [*SAMPLE, (FAR, 7 - FAR)], [*DEEP, height])

    def test_too_far_first(self):
        full = Raised(Floor(NESTED), scattered_heights(Floor(NESTED), 6, HIGH))
        for raised in (full, Raised(Floor(SAMPLE), DEEP)):
            for wrong in (FAR + 1, -FAR - 1, HUGE):
                self.refuses(TooFar(wrong), raised.plus, (wrong, HUGE + 1), HUGE + 2)
                self.refuses(TooFar(wrong), raised.plus, (0, wrong), HUGE + 2)
            for wrong in (HIGH + 1, -HIGH - 1, HUGE):
                self.refuses(TooFar(wrong), raised.plus, (0, 0), wrong)

    def test_then_the_count(self):
        full = Raised(Floor(NESTED), scattered_heights(Floor(NESTED), 6, HIGH))
        for point in ((0, 0), (1, 77), (FAR, FAR)):
            self.refuses(WrongCount(11), full.plus, point, 5)

    def test_then_line_and_plane(self):
        raised = Raised(Floor(SAMPLE), DEEP)
        self.refuses(OnLine((0, 1, 4)), raised.plus, (2, 0), 8)
        self.refuses(OnLine((0, 3, 4)), raised.plus, (5, 5), 8)
        self.refuses(OnPlane((0, 1, 2, 4)), raised.plus, (1, 2), 12)
        self.refuses(OnPlane((0, 1, 3, 4)), raised.plus, (1, 2), 0)


class Tilted(RaisedCase):
    def test_heights(self):
        for raised in all_raised()[1::2]:
            for a, b, c in ((0, 0, 0), (1, -2, 3), (FAR, FAR, -10 ** 12), (-FAR, FAR, 10 ** 12)):
                tilted = raised.tilted(a, b, c)
                self.is_raised(tilted, raised.floor.points, [a * x + b * y + c + z for x, y, z in places_of(raised)])

    def test_keeps_what_is_below(self):
        for raised in all_raised()[1::2]:
            tilted = raised.tilted(5, -7, 1000)
            for three in combinations(range(len(raised)), 3):
                self.same(tilted.below(*three), raised.below(*three))
                self.same(tilted.above(*three), raised.above(*three))

    def test_arguments_too_far(self):
        raised = Raised(Floor(SAMPLE), [HIGH, -HIGH, HIGH, 0])
        for wrong in (FAR + 1, -FAR - 1, HUGE):
            self.refuses(TooFar(wrong), raised.tilted, wrong, HUGE + 1, HUGE + 2)
            self.refuses(TooFar(wrong), raised.tilted, 0, wrong, HUGE + 2)
        for wrong in (10 ** 12 + 1, -10 ** 12 - 1, HUGE):
            # Before a height that would come out of range.
            self.refuses(TooFar(wrong), raised.tilted, FAR, FAR, wrong)

    def test_new_heights_too_far(self):
        raised = Raised(Floor(SAMPLE), [0, HIGH - 1, HIGH - 1, 5])
        self.is_raised(raised.tilted(0, 0, 1), SAMPLE, [1, HIGH, HIGH, 6])
        self.refuses(TooFar(HIGH + 1), raised.tilted, 0, 0, 2)
        self.refuses(TooFar(HIGH + 3), raised.tilted, 1, 2, 0)
        self.refuses(TooFar(HIGH + 7), raised.tilted, 0, 2, 0)
        raised = Raised(Floor(SAMPLE), [0, 3 - HIGH, -HIGH, 5])
        self.refuses(TooFar(-HIGH - 1), raised.tilted, -1, -2, 0)
        self.refuses(TooFar(-HIGH - 8), raised.tilted, 0, -2, 0)


class Negative(RaisedCase):
    def test_below_is_above(self):
        for raised in all_raised():
            down = -raised
            self.is_raised(down, raised.floor.points, [-z for z in raised.heights])
            for three in combinations(range(len(raised)), 3):
                self.same(down.below(*three), raised.above(*three))
                self.same(down.above(*three), raised.below(*three))

    def test_objects_stay(self):
        raised = Raised(Floor(SAMPLE), DEEP)
        for act in (lambda: -raised, lambda: raised.tilted(1, 1, 1), lambda: raised.only([3, 2, 1]),
                    lambda: raised.without(0), lambda: raised.plus((7, 9), 1), lambda: raised.plane(0, 1, 2)):
            act()
            self.is_raised(raised, SAMPLE, DEEP)
