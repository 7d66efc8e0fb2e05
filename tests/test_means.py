"""Point 37: means over all subsets of a size."""

from fractions import Fraction
from itertools import combinations
from math import comb

from everybowl.bowls import Bowl
from everybowl.errors import NoSize
from everybowl.floors import Floor
from everybowl.means import mean_corners, mean_net_points, mean_triangles
from everybowl.nets import lower_net, net_points
from everybowl.raised import Raised
from everybowl.ratios import Ratio
from everybowl.rims import corners
from everybowl.touches import is_bowl
from tests.heights import DEEP, HUGE, belows, fraction, many_bowls, many_raised, small_raised
from tests.helpers import ROUND, SAMPLE, Case, lies_within


def lower_nets(raised, size):
    """The lower net of each subset of this size, told by the planes of the whole."""
    return [[three for three, below in belows(raised).items() if set(three) <= set(part) and not set(below) & set(part)]
            for part in combinations(range(len(raised)), size)]


def corners_among(floor, numbers):
    return [k for k in numbers
            if not any(lies_within(floor, three, k) for three in combinations(numbers, 3) if k not in three)]


class MeanCase(Case):
    def is_mean(self, got, total, count):
        self.assertIs(got.__class__, Ratio)
        wanted = Fraction(total, count)
        self.same((got.top, got.bottom), (wanted.numerator, wanted.denominator))


class Means(MeanCase):
    def test_against_all_subsets(self):
        for raised in [*small_raised(7), *many_raised()[-10::3]]:
            n = len(raised)
            for size in range(3, n + 1):
                nets = lower_nets(raised, size)
                self.is_mean(mean_triangles(raised, size), sum(len(net) for net in nets), comb(n, size))
                self.is_mean(mean_net_points(raised, size),
                             sum(len({k for three in net for k in three}) for net in nets), comb(n, size))

    def test_corners_against_all_subsets(self):
        for raised in [*small_raised(7)[::3], many_raised()[-1]]:
            n, floor = len(raised), raised.floor
            for size in range(3, n + 1):
                total = sum(len(corners_among(floor, part)) for part in combinations(range(n), size))
                self.is_mean(mean_corners(floor, size), total, comb(n, size))

    def test_ends(self):
        for raised in many_raised():
            n = len(raised)
            self.is_mean(mean_corners(raised.floor, 3), 3, 1)
            self.is_mean(mean_triangles(raised, 3), 1, 1)
            self.is_mean(mean_net_points(raised, 3), 3, 1)
            self.is_mean(mean_corners(raised.floor, n), len(corners(raised.floor)), 1)
            self.is_mean(mean_triangles(raised, n), len(lower_net(raised)), 1)
            self.is_mean(mean_net_points(raised, n), len(net_points(raised)), 1)

    def test_known(self):
        floor = Floor(SAMPLE)
        self.is_mean(mean_corners(floor, 4), 3, 1)
        points = Floor([*SAMPLE, (2, 1)])
        self.is_mean(mean_corners(points, 4), 16, 5)
        self.is_mean(mean_triangles(Raised(floor, DEEP), 4), 3, 1)
        self.is_mean(mean_net_points(Raised(floor, DEEP), 4), 4, 1)
        self.is_mean(mean_net_points(Raised(floor, [0, 0, 0, 5]), 4), 3, 1)

    def test_facts(self):
        for raised in many_raised():
            n = len(raised)
            for size in range(3, n + 1):
                triangles, points, edge = [fraction(mean) for mean in (
                    mean_triangles(raised, size), mean_net_points(raised, size), mean_corners(raised.floor, size))]
                self.assertEqual(triangles, 2 * points - 2 - edge)
                if size > 3:
                    self.same(points == size, is_bowl(raised))

    def test_bowls_have_all_points(self):
        for bowl in many_bowls():
            for size in range(3, len(bowl) + 1):
                self.is_mean(mean_net_points(bowl, size), size, 1)

    def test_no_size(self):
        for n in range(3, 11):
            raised = Bowl.circular(Floor(ROUND[:n]))
            for wrong in (-1, 0, 2, n + 1, HUGE, -HUGE):
                self.refuses(NoSize(wrong), mean_corners, raised.floor, wrong)
                self.refuses(NoSize(wrong), mean_triangles, raised, wrong)
                self.refuses(NoSize(wrong), mean_net_points, raised, wrong)
