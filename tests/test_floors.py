"""Points 5, 12, 13, 14 and 16: floors."""

from itertools import combinations, permutations

from everybowl.errors import NoPoint, OnLine, Repeated, TooFar, WrongCount
from everybowl.floors import Floor
from tests.helpers import FAR, NESTED, ROUND, SAMPLE, WIDE, Case, all_floors, doubled, turn_of

HUGE = 10 ** 5000


def floors_of_one_kind(case, got, points):
    case.assertIs(got.__class__, Floor)
    case.same(got.points, tuple(points))


class Making(Case):
    def test_lists_tuples_and_of(self):
        for points in (ROUND, NESTED, WIDE):
            for n in range(3, 11):
                some = points[:n]
                floors_of_one_kind(self, Floor(some), some)
                floors_of_one_kind(self, Floor(tuple(some)), some)
                floors_of_one_kind(self, Floor.of(*some), some)

    def test_counts(self):
        points = ROUND + [(10, 100), (11, 121)]
        for n in (0, 1, 2, 11, 12):
            self.refuses(WrongCount(n), Floor, points[:n])
            self.refuses(WrongCount(n), Floor, tuple(points[:n]))
            self.refuses(WrongCount(n), Floor.of, *points[:n])
            # Before each other error.
            self.refuses(WrongCount(n), Floor, [(FAR + 1, 0)] * n)
            self.refuses(WrongCount(n), Floor.of, *[(FAR + 1, 0)] * n)

    def test_too_far(self):
        for wrong in (FAR + 1, -FAR - 1, HUGE, -HUGE):
            for at in range(6):
                flat = [1] * at + [wrong] + [HUGE + 1] * (5 - at)
                points = [tuple(flat[k:k + 2]) for k in (0, 2, 4)]
                self.refuses(TooFar(wrong), Floor, points)
                self.refuses(TooFar(wrong), Floor.of, *points)
        # Before points on a line.
        self.refuses(TooFar(FAR + 1), Floor, [(0, 0), (1, 1), (2, 2), (5, FAR + 1)])

    def test_ends_of_the_range(self):
        corners = [(-FAR, -FAR), (FAR, -FAR), (FAR, FAR), (-FAR, FAR)]
        floors_of_one_kind(self, Floor(corners), corners)

    def test_on_line(self):
        self.refuses(OnLine((0, 1, 3)), Floor, [(0, 0), (1, 1), (5, 0), (3, 3)])
        self.refuses(OnLine((0, 1, 2)), Floor, [(0, 0), (0, 0), (0, 0)])
        self.refuses(OnLine((0, 1, 2)), Floor.of, (0, 0), (2, 1), (-2, -1))
        # The first triangle: two equal points are on a line with each other point.
        self.refuses(OnLine((0, 1, 3)), Floor, [(0, 0), (9, 1), (1, 9), (0, 0)])
        self.refuses(OnLine((0, 2, 3)), Floor, [(0, 0), (9, 1), (1, 1), (2, 2), (-9, -1)][:4])
        self.refuses(OnLine((0, 1, 4)), Floor, [(0, 0), (9, 1), (1, 1), (2, 2), (-9, -1)])

    def test_first_triangle_on_a_line(self):
        for a, b, c in combinations(range(10), 3):
            points = list(ROUND)
            # Only the third point moves, onto the line of the other two.
            points[c] = (2 * points[b][0] - points[a][0], 2 * points[b][1] - points[a][1])
            flat = [three for three in combinations(range(10), 3) if doubled(*[points[k] for k in three]) == 0]
            self.refuses(OnLine(flat[0]), Floor, points)

    def test_class_values(self):
        self.same([Floor.LEAST, Floor.MOST, Floor.FAR], [3, 10, 1000000])


class Asking(Case):
    def test_points_len_and_iteration(self):
        for floor in all_floors():
            self.assertIs(floor.points.__class__, tuple)
            self.same(len(floor), len(floor.points))
            self.same(list(floor), list(floor.points))
            self.same([floor[k] for k in range(len(floor))], list(floor))

    def test_no_item(self):
        for n in range(3, 11):
            for number in (-1, n, n + 1, HUGE, -HUGE):
                self.refuses(NoPoint(number), lambda: Floor(NESTED[:n])[number])

    def test_contains(self):
        floor = Floor(SAMPLE)
        for point in SAMPLE:
            self.assertIs(point in floor, True)
        for point in ((0, 1), (4, 4), (HUGE, 0), (1, 0)):
            self.assertIs(point in floor, False)

    def test_equal(self):
        self.assertIs(Floor(SAMPLE) == Floor.of(*SAMPLE), True)
        self.assertIs(Floor(SAMPLE) != Floor(SAMPLE), False)
        self.assertIs(Floor(SAMPLE) == Floor(SAMPLE[:3]), False)
        self.assertIs(Floor(SAMPLE) == Floor(SAMPLE[::-1]), False)
        self.assertIs(Floor(SAMPLE) == Floor([(0, 0), (4, 0), (0, 4), (1, 2)]), False)
        for other in (SAMPLE, tuple(SAMPLE), None, 4, "floor"):
            self.assertIs(Floor(SAMPLE) == other, False)
            self.assertIs(other == Floor(SAMPLE), False)

    def test_lists_are_copied(self):
        points = list(SAMPLE)
        floor = Floor(points)
        points[0] = (7, 7)
        points.append((9, 9))
        self.same(floor.points, tuple(SAMPLE))
        numbers = [3, 1, 0]
        only = floor.only(numbers)
        numbers.clear()
        self.same(only.points, ((1, 1), (4, 0), (0, 0)))
        found = list(floor)
        found.clear()
        self.same(list(floor), SAMPLE)


class Turns(Case):
    def test_area_and_turn_in_every_order(self):
        for floor in all_floors():
            for a, b, c in permutations(range(len(floor)), 3):
                self.same(floor.area(a, b, c), doubled(floor[a], floor[b], floor[c]))
                self.same(floor.turn(a, b, c), turn_of(floor, a, b, c))

    def test_known(self):
        floor = Floor(SAMPLE)
        self.same([floor.area(0, 1, 2), floor.area(1, 0, 2), floor.area(0, 1, 3)], [16, -16, 4])
        self.same([floor.turn(0, 1, 2), floor.turn(1, 0, 2)], [1, -1])
        self.same(Floor(WIDE[:3]).area(0, 1, 2), 4 * FAR * FAR)

    def test_left_of_in_both_directions(self):
        for floor in all_floors():
            n = len(floor)
            for a, b in permutations(range(n), 2):
                rest = [c for c in range(n) if c not in (a, b)]
                self.same(floor.left_of(a, b), [c for c in rest if turn_of(floor, a, b, c) == 1])
                self.same(floor.left_of(b, a), [c for c in rest if c not in floor.left_of(a, b)])
        self.same(Floor(SAMPLE).left_of(1, 3), [0])
        self.new_each_time(Floor(SAMPLE).left_of, 0, 1)

    def test_wrong_numbers(self):
        floor = Floor(SAMPLE)
        for act in (floor.area, floor.turn):
            for wrong in (-1, 4, HUGE, -HUGE):
                self.refuses(NoPoint(wrong), act, wrong, wrong, 5)
                self.refuses(NoPoint(wrong), act, 2, wrong, 2)
                self.refuses(NoPoint(wrong), act, 2, 1, wrong)
            self.refuses(Repeated(2), act, 2, 2, 9)
            self.refuses(Repeated(2), act, 2, 1, 2)
            self.refuses(Repeated(1), act, 2, 1, 1)
        for wrong in (-1, 4, HUGE):
            self.refuses(NoPoint(wrong), floor.left_of, wrong, 7)
            self.refuses(NoPoint(wrong), floor.left_of, 3, wrong)
        self.refuses(Repeated(3), floor.left_of, 3, 3)


class Only(Case):
    def test_every_part_in_any_order(self):
        floor = Floor(NESTED)
        for size in range(3, 11):
            for numbers in list(combinations(range(10), size))[::7]:
                for order in (numbers, numbers[::-1], numbers[1:] + numbers[:1]):
                    floors_of_one_kind(self, floor.only(list(order)), [NESTED[k] for k in order])
                    floors_of_one_kind(self, floor.only(order), [NESTED[k] for k in order])

    def test_counts_first(self):
        floor = Floor(SAMPLE)
        for numbers in ([], [0], [0, 1], [9, 9], [0, 1, 2, 3, 0], [-1] * 5, list(range(11))):
            self.refuses(WrongCount(len(numbers)), floor.only, numbers)
            self.refuses(WrongCount(len(numbers)), floor.only, tuple(numbers))

    def test_then_members(self):
        floor = Floor(SAMPLE)
        self.refuses(NoPoint(4), floor.only, [0, 4, 0])
        self.refuses(NoPoint(-1), floor.only, [0, 1, -1])
        self.refuses(NoPoint(HUGE), floor.only, [0, 1, 2, HUGE])
        self.refuses(Repeated(0), floor.only, [0, 0, 4])
        self.refuses(Repeated(1), floor.only, (0, 1, 2, 1))


class Without(Case):
    def test_each_point(self):
        for floor in all_floors():
            points = floor.points
            for number in range(len(floor)):
                if len(floor) > 3:
                    floors_of_one_kind(self, floor.without(number), points[:number] + points[number + 1:])
                else:
                    self.refuses(WrongCount(2), floor.without, number)

    def test_no_point_first(self):
        for n in (3, 4, 10):
            for number in (-1, n, HUGE):
                self.refuses(NoPoint(number), Floor(NESTED[:n]).without, number)

    def test_floor_stays(self):
        floor = Floor(SAMPLE)
        floor.without(0)
        floor.plus((5, 7))
        floor.only([2, 1, 0])
        self.same(floor.points, tuple(SAMPLE))


class Plus(Case):
    def test_one_more(self):
        for points in (ROUND, NESTED, WIDE):
            for n in range(3, 10):
                floors_of_one_kind(self, Floor(points[:n]).plus(points[n]), points[:n + 1])

    def test_errors_in_order(self):
        for n in (3, 9, 10):
            floor = Floor(ROUND[:n])
            for wrong in (FAR + 1, -FAR - 1, HUGE):
                self.refuses(TooFar(wrong), floor.plus, (wrong, HUGE + 1))
                self.refuses(TooFar(wrong), floor.plus, (0, wrong))
        for point in ((0, 1), (0, 0), (FAR, -FAR)):
            self.refuses(WrongCount(11), Floor(ROUND).plus, point)

    def test_on_line(self):
        floor = Floor(SAMPLE)
        self.refuses(OnLine((0, 1, 4)), floor.plus, (9, 0))
        self.refuses(OnLine((0, 3, 4)), floor.plus, (2, 2))
        self.refuses(OnLine((0, 2, 4)), floor.plus, (0, 4))
        self.refuses(OnLine((1, 3, 4)), floor.plus, (7, -1))

    def test_ends_of_the_range(self):
        for end in ((FAR, FAR - 1), (-FAR, 1 - FAR), (1 - FAR, FAR), (FAR - 1, -FAR)):
            floors_of_one_kind(self, Floor(SAMPLE).plus(end), [*SAMPLE, end])
