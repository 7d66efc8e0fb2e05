"""Raised points: a floor with a height for each point, no four of them on a plane."""

from everybowl.checks import check_count, check_numbers, check_range
from everybowl.choices import subset_list
from everybowl.errors import OnPlane
from everybowl.floors import check_point, others
from everybowl.ratios import Ratio
from everybowl.turns import bare_height_sign, bare_plane, bare_rise

FARTHEST_SLOPE = 10 ** 6
FARTHEST_LIFT = 10 ** 12


class Raised:
    """A floor and a height for each of its points."""

    HIGH = 1000000000000000

    def __init__(self, floor, heights):
        check_count(heights, len(floor), len(floor))
        for height in heights:
            check_height(height)
        places = raised_places(floor, heights)
        check_planes(places)
        self.floor = floor
        self.heights = tuple(heights)
        self._places = places

    def __len__(self):
        return len(self.heights)

    def __eq__(self, other):
        return isinstance(other, Raised) and self.floor == other.floor and self.heights == other.heights

    def __neg__(self):
        return Raised(self.floor, [-height for height in self.heights])

    def over(self, a, b, c, d):
        """Return 1 if the raised point d is above the plane through a, b and c, and -1 if it is below."""
        check_numbers((a, b, c, d), len(self.heights))
        return bare_height_sign(self._places[a], self._places[b], self._places[c], self._places[d])

    def below(self, a, b, c):
        """Return the numbers of the raised points below the plane through a, b and c."""
        return self._beyond(a, b, c, -1)

    def above(self, a, b, c):
        """Return the numbers of the raised points above the plane through a, b and c."""
        return self._beyond(a, b, c, 1)

    def _beyond(self, a, b, c, side):
        check_numbers((a, b, c), len(self.heights))
        p, q, r = self._places[a], self._places[b], self._places[c]
        return [d for d, place in enumerate(self._places) if bare_height_sign(p, q, r, place) == side]

    def plane(self, a, b, c):
        """Return the Ratios (alpha, beta, gamma) of the plane alpha * x + beta * y + gamma through a, b and c."""
        check_numbers((a, b, c), len(self.heights))
        alpha, beta, gamma, area = bare_plane(self._places[a], self._places[b], self._places[c])
        return Ratio(alpha, area), Ratio(beta, area), Ratio(gamma, area)

    def only(self, numbers):
        """Return the listed raised points, in the order of the list."""
        floor = self.floor.only(numbers)
        return Raised(floor, [self.heights[number] for number in numbers])

    def without(self, number):
        """Return the raised points without this one."""
        floor = self.floor.without(number)
        return Raised(floor, [self.heights[k] for k in others(len(self.heights), number)])

    def plus(self, point, height):
        """Return the raised points with one more at the end."""
        check_point(point)
        check_height(height)
        return Raised(self.floor.plus(point), [*self.heights, height])

    def tilted(self, a, b, c):
        """Return the raised points with a * x + b * y + c added to each height."""
        check_range(a, -FARTHEST_SLOPE, FARTHEST_SLOPE)
        check_range(b, -FARTHEST_SLOPE, FARTHEST_SLOPE)
        check_range(c, -FARTHEST_LIFT, FARTHEST_LIFT)
        return Raised(self.floor, [a * x + b * y + c + z for x, y, z in self._places])


def check_height(height):
    """Refuse a height that is out of range."""
    check_range(height, -Raised.HIGH, Raised.HIGH)


def raised_places(floor, heights):
    """Return the tuple of the raised points (x, y, z)."""
    return tuple([(x, y, z) for (x, y), z in zip(floor.points, heights)])


def check_planes(places):
    """Refuse the first four raised points that lie on a plane."""
    for a, b, c, d in subset_list(len(places), 4):
        if bare_rise(places[a], places[b], places[c], places[d]) == 0:
            raise OnPlane((a, b, c, d))
