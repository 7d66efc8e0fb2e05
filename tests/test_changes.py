"""Point 15: changes of all points at once."""

from itertools import combinations

from everybowl.changes import mirrored, moved, quartered, scaled, sheared
from everybowl.errors import TooFar
from everybowl.floors import Floor
from tests.helpers import FAR, SAMPLE, WIDE, Case, all_floors, scattered_points

HUGE = 10 ** 5000
SMALL_FLOORS = [Floor(scattered_points(n, n, 300)) for n in range(3, 11)]


class Changed(Case):
    def is_changed(self, floor, got, change, turn):
        """A new floor with the changed points, and all turns as they were, or of the other sign."""
        points = tuple(floor.points)
        self.assertIs(got.__class__, Floor)
        self.same(got.points, tuple([change(x, y) for x, y in points]))
        for a, b, c in combinations(range(len(floor)), 3):
            self.assertEqual(got.turn(a, b, c), turn * floor.turn(a, b, c))
        self.same(floor.points, points)

    def test_moved(self):
        for floor in SMALL_FLOORS:
            for dx, dy in ((0, 0), (1, -2), (-300, 700), (FAR - 300, 300 - FAR)):
                self.is_changed(floor, moved(floor, dx, dy), lambda x, y: (x + dx, y + dy), 1)

    def test_sheared(self):
        for floor in SMALL_FLOORS:
            for k in (0, 1, -1, 3, 1000, -1000):
                self.is_changed(floor, sheared(floor, k), lambda x, y: (x + k * y, y), 1)

    def test_scaled(self):
        for floor in SMALL_FLOORS:
            for m in (1, 2, 7, 1000):
                self.is_changed(floor, scaled(floor, m), lambda x, y: (m * x, m * y), 1)

    def test_mirrored_and_quartered(self):
        for floor in all_floors():
            self.is_changed(floor, mirrored(floor), lambda x, y: (-x, y), -1)
            self.is_changed(floor, quartered(floor), lambda x, y: (-y, x), 1)


class Arguments(Case):
    def test_ends_of_moved(self):
        low = Floor([(-FAR, -FAR), (1 - FAR, -FAR), (-FAR, 1 - FAR)])
        high = Floor([(FAR, FAR), (FAR - 1, FAR), (FAR, FAR - 1)])
        self.same(moved(low, 2 * FAR - 1, 2 * FAR - 1).points, ((FAR - 1, FAR - 1), (FAR, FAR - 1), (FAR - 1, FAR)))
        self.same(moved(high, -2 * FAR + 1, 0).points, ((1 - FAR, FAR), (-FAR, FAR), (1 - FAR, FAR - 1)))
        # The ends themselves are arguments in range; the coordinates come one beyond.
        self.refuses(TooFar(FAR + 1), moved, low, 2 * FAR, 0)
        self.refuses(TooFar(FAR + 1), moved, low, 0, 2 * FAR)
        self.refuses(TooFar(-FAR - 1), moved, high, -2 * FAR, 0)
        self.refuses(TooFar(-FAR - 1), moved, high, 0, -2 * FAR)

    def test_moved_just_to_the_ends(self):
        floor = Floor(SAMPLE)
        self.same(moved(floor, FAR - 4, -FAR)[1], (FAR, -FAR))
        self.same(moved(floor, -FAR, FAR - 4)[2], (-FAR, FAR))
        self.refuses(TooFar(FAR + 1), moved, floor, FAR - 3, 0)
        self.refuses(TooFar(-FAR - 1), moved, floor, 0, -FAR - 1)

    def test_moved_beyond(self):
        for wrong in (2 * FAR + 1, -2 * FAR - 1, HUGE, -HUGE):
            # Before each coordinate that would come out of range, and dx before dy.
            self.refuses(TooFar(wrong), moved, Floor(WIDE), wrong, HUGE + 1)
            self.refuses(TooFar(wrong), moved, Floor(WIDE), 5, wrong)
            self.refuses(TooFar(wrong), moved, Floor(SAMPLE), 0, wrong)
            self.refuses(TooFar(wrong), moved, Floor(SAMPLE), wrong, 0)

    def test_sheared_beyond(self):
        for wrong in (1001, -1001, HUGE, -HUGE):
            self.refuses(TooFar(wrong), sheared, Floor(WIDE), wrong)
            self.refuses(TooFar(wrong), sheared, Floor(SAMPLE), wrong)

    def test_scaled_beyond(self):
        for wrong in (0, -1, 1001, HUGE, -HUGE):
            self.refuses(TooFar(wrong), scaled, Floor(WIDE), wrong)
            self.refuses(TooFar(wrong), scaled, Floor(SAMPLE), wrong)


class Coordinates(Case):
    def test_x_before_y(self):
        floor = Floor([(0, 0), (5, 7), (9, 1)])
        self.refuses(TooFar(FAR + 5), moved, floor, FAR, FAR)
        self.refuses(TooFar(FAR + 7), moved, floor, FAR - 9, FAR)
        self.refuses(TooFar(FAR + 1), moved, floor, FAR + 1, FAR + 2)
        self.refuses(TooFar(FAR + 2), moved, floor, 0, FAR + 2)

    def test_point_after_point(self):
        floor = Floor([(0, 0), (0, 7), (9, 1)])
        self.refuses(TooFar(FAR + 7), moved, floor, FAR, FAR)
        self.refuses(TooFar(FAR + 9), moved, floor, FAR, FAR - 7)

    def test_sheared_just_to_the_ends(self):
        floor = Floor([(0, 1000), (1, -1000), (5, 3)])
        self.same(sheared(floor, 1000).points, ((FAR, 1000), (1 - FAR, -1000), (3005, 3)))
        self.refuses(TooFar(-FAR - 1), sheared, Floor([(0, 1000), (-1, -1000), (5, 3)]), 1000)
        self.refuses(TooFar(FAR + 1), sheared, Floor([(0, 1000), (1, -1000), (5, 3)]), -1000)

    def test_scaled_just_to_the_ends(self):
        floor = Floor([(1000, 0), (-1000, 5), (3, -1000)])
        self.same(scaled(floor, 1000).points, ((FAR, 0), (-FAR, 5000), (3000, -FAR)))
        self.refuses(TooFar(-FAR - 1000), scaled, Floor([(1000, 0), (-1000, -1001), (1001, 5)]), 1000)
        self.refuses(TooFar(2 * FAR), scaled, Floor([(7, FAR), (FAR, 3), (0, 0)]), 2)

    def test_argument_before_coordinate(self):
        self.refuses(TooFar(2 * FAR + 1), moved, Floor(WIDE), 3, 2 * FAR + 1)
        self.refuses(TooFar(1001), sheared, Floor(WIDE), 1001)
        self.refuses(TooFar(1001), scaled, Floor(WIDE), 1001)
        # The argument is in range, and so the coordinate counts.
        self.refuses(TooFar(3 - FAR - FAR), moved, Floor([(3 - FAR, 0), (0, 1), (1, 5)]), -FAR, 5)
        self.refuses(TooFar(-1001 * FAR), sheared, Floor(WIDE), 1000)
        self.refuses(TooFar(-1000 * FAR), scaled, Floor(WIDE), 1000)
