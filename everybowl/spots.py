"""Spots: places on a floor, and how its points lie around them."""

from everybowl.checks import check_range, check_size
from everybowl.choices import choose, subset_list
from everybowl.errors import OnLine
from everybowl.ratios import Ratio
from everybowl.tables import tally, unbend
from everybowl.turns import bare_cross, is_within

FARTHEST_SPOT = 10 ** 12
MOST_SCALE = 10 ** 6
CENTRE = (0, 0)


class Spot:
    """A place on a floor that lies on no line through two of its points."""

    def __init__(self, floor, x, y, *, scale=1):
        check_range(x, -FARTHEST_SPOT, FARTHEST_SPOT)
        check_range(y, -FARTHEST_SPOT, FARTHEST_SPOT)
        check_range(scale, 1, MOST_SCALE)
        ways = [(scale * px - x, scale * py - y) for px, py in floor.points]
        check_ways(ways)
        self.floor = floor
        self.x = Ratio(x, scale)
        self.y = Ratio(y, scale)
        self.spokes = counterclockwise(ways)
        self.lefts = tuple([len(left_of_way(ways, number)) for number in range(len(ways))])
        self._ways = ways

    @property
    def inside(self):
        """Whether the whole set is around the spot."""
        # From outside, all other spokes are on the left of the first one, as they turn counterclockwise.
        return len(self.lefts) - 1 not in self.lefts

    @property
    def row(self):
        """The spot row, which is the height row of all heights over the floor."""
        return unbend([1 - equal for equal in tally(self.lefts, len(self.lefts))])

    def triangles(self):
        """Return the triangles around the spot, in ascending order."""
        return [three for three in subset_list(len(self.lefts), 3) if is_around_centre(self._ways, three)]

    def around(self, size):
        """Return how many subsets of this size are around the spot."""
        n = len(self.lefts)
        check_size(size, 0, n)
        if size < 3:
            return 0
        # A subset that is not around the spot has one spoke with all its other spokes on the left.
        return choose(n, size) - sum([choose(left, size - 1) for left in self.lefts])


def check_ways(ways):
    """Refuse the first two points that lie on a line with the spot, from which the ways lead to the points."""
    for a, b in subset_list(len(ways), 2):
        if bare_cross(ways[a], ways[b]) == 0:
            raise OnLine((a, b))


def left_of_way(ways, number):
    """Return the numbers of the ways on the left of the way with this number."""
    return [k for k, way in enumerate(ways) if bare_cross(ways[number], way) > 0]


def counterclockwise(ways):
    """Return the numbers of the ways in counterclockwise order, beginning with 0."""
    left = left_of_way(ways, 0)
    right = [k for k in range(1, len(ways)) if k not in left]
    return (0, *within_half_turn(ways, left), *within_half_turn(ways, right))


def within_half_turn(ways, half):
    """Return numbers of ways that lie within half a turn in counterclockwise order."""
    return sorted(half, key=lambda number: len([k for k in half if number in left_of_way(ways, k)]))


def is_around_centre(ways, three):
    """Tell whether the place from which the ways lead is within the triangle of their ends."""
    a, b, c = three
    return is_within(ways[a], ways[b], ways[c], CENTRE)
