"""Points 53 to 56: how the order of the points changes while a direction turns."""

from fractions import Fraction
from itertools import combinations, permutations
from math import comb, gcd

from everybowl.cuts import cuts
from everybowl.errors import NoPoint, Repeated, WrongCount, WrongTurning
from everybowl.floors import Floor
from everybowl.linerows import line_row
from everybowl.turning import exchange_places, orders, read_turns, turning
from tests.heights import HUGE
from tests.helpers import SAMPLE, Case, all_floors, scattered, turn_of

# Pairs with equal directions, at (-1, 0) among them, and pairs of points with equal x.
GRID = [(0, 0), (1, 0), (0, 1), (1, 2), (2, 1), (3, 5), (5, 3)]
SQUARE = [(4, 0), (0, 0), (0, 4), (4, 4)]


def floors():
    found = [Floor(points) for points in (SQUARE, SQUARE[::-1], [(y, x) for x, y in SAMPLE])]
    return [*all_floors(), *found, *[Floor(GRID[:n]) for n in range(3, 6)], Floor([GRID[k] for k in (3, 5, 6, 1, 0)])]


def value(floor, way, number):
    return way[0] * floor.points[number][0] + way[1] * floor.points[number][1]


def meetings(floor):
    """For each direction of the turn, in its order, the pairs with equal values; told by (-cot) of the angle."""
    found = {}
    for a, b in combinations(range(len(floor)), 2):
        (ax, ay), (bx, by) = floor.points[a], floor.points[b]
        # ux * (bx - ax) + uy * (by - ay) is 0, and uy is positive, or ux is -1 and uy is 0.
        x, y = (ay - by, bx - ax) if bx > ax else (by - ay, ax - bx)
        if y == 0:
            x = -1
        divisor = gcd(x, y)
        found.setdefault((x // divisor, y // divisor), []).append((a, b))

    def angle(way):
        return (way[1] == 0, Fraction(-way[0], way[1]) if way[1] else 0)

    return [(way, found[way]) for way in sorted(found, key=angle)]


def between(first, last):
    """A direction between two others that are less than half a turn apart."""
    return (first[0] + last[0], first[1] + last[1])


def orders_told(floor):
    """The orders in directions between the changes, and just behind the last one."""
    ways = [way for way, _ in meetings(floor)]
    numbers = range(len(floor))
    found = [sorted(numbers, key=lambda k: floor.points[k])]
    # From the last direction on there is nothing up to half a turn behind (1, 0), and a little beyond.
    last = (-1, 0) if ways[-1] != (-1, 0) else None
    for way, after in zip(ways, [*ways[1:], last]):
        if after is None:
            found.append(sorted(numbers, key=lambda k: (-floor.points[k][0], -floor.points[k][1])))
        else:
            found.append(sorted(numbers, key=lambda k: value(floor, between(way, after), k)))
    return found


class Turning(Case):
    def test_directions_and_pairs(self):
        several = 0
        for floor in floors():
            got = list(turning(floor))
            self.same(got, meetings(floor))
            several += any(len(pairs) > 1 for _, pairs in got)
            for (x, y), pairs in got:
                self.assertTrue(gcd(x, y) == 1 and (y > 0 or (x, y) == (-1, 0)))
                self.assertTrue(all(value(floor, (x, y), a) == value(floor, (x, y), b) for a, b in pairs))
            self.same(sorted([pair for _, pairs in got for pair in pairs]),
                      list(combinations(range(len(floor)), 2)))
        self.assertTrue(several > 3)

    def test_known(self):
        self.same(list(turning(Floor(SAMPLE))),
                  [((3, 1), [(2, 3)]), ((1, 1), [(1, 2)]), ((1, 3), [(1, 3)]), ((0, 1), [(0, 1)]), ((-1, 1), [(0, 3)]),
                   ((-1, 0), [(0, 2)])])
        self.same(list(turning(Floor(SQUARE))),
                  [((1, 1), [(0, 2)]), ((0, 1), [(0, 1), (2, 3)]), ((-1, 1), [(1, 3)]),
                   ((-1, 0), [(0, 3), (1, 2)])])

    def test_new_each_time(self):
        floor = Floor(SQUARE)
        for _, pairs in turning(floor):
            pairs.append("more")
        self.same([len(pairs) for _, pairs in turning(floor)], [1, 2, 1, 2])


class Orders(Case):
    def test_orders(self):
        for floor in floors():
            got = list(orders(floor))
            self.same(got, orders_told(floor))
            self.same(got[-1], got[0][::-1])
            self.assertEqual(len(got), len(list(turning(floor))) + 1)

    def test_neighbours_are_exchanged(self):
        for floor in floors():
            got = list(orders(floor))
            for before, after, (_, pairs) in zip(got, got[1:], turning(floor)):
                changed = list(before)
                for a, b in pairs:
                    self.assertEqual(abs(before.index(a) - before.index(b)), 1)
                    changed[before.index(a)], changed[before.index(b)] = b, a
                self.same(changed, after)

    def test_equal_x_and_known(self):
        self.same(list(orders(Floor(SQUARE))),
                  [[1, 2, 0, 3], [1, 0, 2, 3], [0, 1, 3, 2], [0, 3, 1, 2], [3, 0, 2, 1]])
        self.same(list(orders(Floor(SAMPLE)))[0], [0, 2, 3, 1])

    def test_new_each_time(self):
        floor = Floor(SAMPLE)
        for order in orders(floor):
            order.append("more")
        self.same([len(order) for order in orders(floor)], [4] * 7)

    def test_first_and_last_points_are_cut_off(self):
        for floor in floors():
            n, got = len(floor), list(orders(floor))
            for k in range(1, n):
                wanted = cuts(floor, k)
                self.same(sorted({tuple(sorted(order[:k])) for order in got}
                                 | {tuple(sorted(order[n - k:])) for order in got}), wanted)


class ExchangePlaces(Case):
    def test_places(self):
        for floor in floors():
            wanted = []
            for order, (_, pairs) in zip(orders_told(floor), meetings(floor)):
                found = [(a, b, min(order.index(a), order.index(b))) for a, b in pairs]
                wanted += sorted(found, key=lambda row: row[2])
            self.same(exchange_places(floor), wanted)

    def test_counts(self):
        for floor in floors():
            n, places = len(floor), [place for _, _, place in exchange_places(floor)]
            self.assertEqual(len(places), comb(n, 2))
            self.same([places.count(j) + places.count(n - 2 - j) for j in range(n - 1)], line_row(floor))

    def test_known(self):
        self.same(exchange_places(Floor(SQUARE)),
                  [(0, 2, 1), (0, 1, 0), (2, 3, 2), (1, 3, 1), (0, 3, 0), (1, 2, 2)])
        self.same(exchange_places(Floor([SQUARE[k] for k in (2, 3, 0, 1)])),
                  [(0, 2, 1), (2, 3, 0), (0, 1, 2), (1, 3, 1), (1, 2, 0), (0, 3, 2)])
        self.new_each_time(exchange_places, Floor(SAMPLE))


def turns_of(floor):
    return [(*three, turn_of(floor, *three)) for three in combinations(range(len(floor)), 3)]


class ReadTurns(Case):
    def test_turns_of_floors(self):
        for floor in floors():
            order = list(orders(floor))[0]
            pairs = [(a, b) for a, b, _ in exchange_places(floor)]
            wanted = turns_of(floor)
            self.same(read_turns(order, pairs), wanted)
            self.same(read_turns(tuple(order), tuple([(b, a) for a, b in pairs])), wanted)
            self.same(read_turns(order, [pair if k % 2 else pair[::-1] for k, pair in enumerate(pairs)]), wanted)

    def test_pairs_of_one_change_in_any_order(self):
        for floor in floors():
            changes = [pairs for _, pairs in turning(floor)]
            for turned in (1, -1):
                pairs = [pair for group in changes for pair in group[::turned]]
                self.same(read_turns(list(orders(floor))[0], pairs), turns_of(floor))

    def test_three_points(self):
        for i, j, k in permutations(range(3)):
            for pairs, turn in (([(i, j), (i, k), (j, k)], 1), ([(j, k), (i, k), (i, j)], -1)):
                swaps = sum(a > b for a, b in combinations((i, j, k), 2))
                self.same(read_turns([i, j, k], pairs), [(0, 1, 2, turn if swaps % 2 == 0 else -turn)])

    def test_turns_that_no_list_of_exchanges_of_a_floor_has(self):
        # Any way of exchanging neighbours, each pair once, is read.
        source = scattered(11)
        for n in range(3, 11):
            order = sorted(range(n), key=lambda k: (k * 7 + 3) % 11)
            present, pairs = list(order), []
            while len(pairs) < comb(n, 2):
                at = next(source) % (n - 1)
                pair = (present[at], present[at + 1])
                if order.index(pair[0]) < order.index(pair[1]):
                    pairs.append(pair)
                    present[at], present[at + 1] = pair[::-1]
            wanted = []
            for three in combinations(range(n), 3):
                i, j, k = sorted(three, key=order.index)
                turn = 1 if pairs.index((i, j)) < pairs.index((j, k)) else -1
                swaps = sum(a > b for a, b in combinations((i, j, k), 2))
                wanted.append((*three, turn if swaps % 2 == 0 else -turn))
            self.same(read_turns(order, pairs), wanted)
            self.refuses(WrongTurning(len(pairs) - 1), read_turns, order, [*pairs[:-1], pairs[0]])

    def test_counts(self):
        for n in (0, 1, 2, 11, 12):
            self.refuses(WrongCount(n), read_turns, [99] * n, [])
        for n in range(3, 11):
            order, count = list(range(n)), comb(n, 2)
            for wrong in (0, 1, count - 1, count + 1, 2 * count):
                self.refuses(WrongCount(wrong), read_turns, order, [(n, n)] * wrong)

    def test_wrong_numbers(self):
        for wrong in (-1, 4, HUGE, -HUGE):
            self.refuses(NoPoint(wrong), read_turns, [3, 1, wrong, 3], [])
            pairs = [(0, 1), (0, 2), (0, wrong), (wrong, 9), (1, 1), (2, 3)]
            self.refuses(NoPoint(wrong), read_turns, [0, 1, 2, 3], pairs)
            self.refuses(NoPoint(wrong), read_turns, [0, 1, 2, 3], [(0, 1), (wrong, wrong), *pairs[2:]])
        self.refuses(Repeated(3), read_turns, [0, 3, 3, 9], [])
        self.refuses(Repeated(0), read_turns, [0, 1, 2, 0], [])
        # A wrong number in the list comes before a pair that cannot be exchanged.
        self.refuses(Repeated(2), read_turns, [0, 1, 2, 3], [(0, 3), (0, 1), (2, 2), (9, 1), (1, 2), (2, 3)])
        self.refuses(NoPoint(9), read_turns, [0, 1, 2, 3], [(0, 3), (0, 1), (1, 2), (9, 9), (2, 2), (2, 3)])

    def test_wrong_turning(self):
        order = [2, 0, 1]
        for pairs, place in (([(2, 1), (0, 1), (2, 0)], 0), ([(1, 2), (9 - 9, 1), (2, 0)], 0),
                             ([(0, 2), (0, 1), (2, 1)], 1), ([(0, 2), (2, 0), (0, 1)], 1),
                             ([(0, 2), (1, 2), (2, 1)], 2), ([(0, 2), (1, 2), (2, 0)], 2)):
            self.refuses(WrongTurning(place), read_turns, order, pairs)
        floor = Floor(GRID[:5])
        order = list(orders(floor))[0]
        pairs = [(a, b) for a, b, _ in exchange_places(floor)]
        for place in range(1, len(pairs)):
            for earlier in range(place):
                spoilt = [*pairs[:place], pairs[earlier][::-1], *pairs[place + 1:]]
                self.refuses(WrongTurning(place), read_turns, order, spoilt)

    def test_lists_stay(self):
        order, pairs = [2, 0, 1], [(0, 2), (2, 1), (0, 1)]
        read_turns(order, pairs)
        self.same([order, pairs], [[2, 0, 1], [(0, 2), (2, 1), (0, 1)]])
        self.new_each_time(read_turns, order, pairs)
