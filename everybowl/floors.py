"""Floors: sets of points in the plane, no three of them on a line."""

from everybowl.checks import check_count, check_number, check_numbers, check_range
from everybowl.choices import subset_list
from everybowl.errors import OnLine, WrongCount
from everybowl.turns import bare_area, sign_of


class Floor:
    """3 to 10 points with integer coordinates, numbered from 0."""

    LEAST = 3
    MOST = 10
    FAR = 1000000

    def __init__(self, points):
        check_count(points, Floor.LEAST, Floor.MOST)
        for point in points:
            check_point(point)
        check_turns(points)
        self.points = tuple(points)

    @classmethod
    def of(cls, *points):
        """Return the floor of points that are passed one by one."""
        return cls(points)

    def __len__(self):
        return len(self.points)

    def __iter__(self):
        return iter(self.points)

    def __getitem__(self, at):
        check_number(at, len(self.points))
        return self.points[at]

    def __contains__(self, x):
        return x in self.points

    def __eq__(self, other):
        return isinstance(other, Floor) and self.points == other.points

    def area(self, a, b, c):
        """Return the doubled area of three points in this order."""
        check_numbers((a, b, c), len(self.points))
        return bare_area(self.points[a], self.points[b], self.points[c])

    def turn(self, a, b, c):
        """Return 1 if the way from a to b to c turns left, otherwise -1."""
        return sign_of(self.area(a, b, c))

    def left_of(self, a, b):
        """Return the numbers of the points on the left of the directed line (a, b)."""
        check_numbers((a, b), len(self.points))
        start, end = self.points[a], self.points[b]
        return [c for c, point in enumerate(self.points) if bare_area(start, end, point) > 0]

    def only(self, numbers):
        """Return the floor of the listed points, in the order of the list."""
        check_count(numbers, Floor.LEAST, len(self.points))
        check_numbers(numbers, len(self.points))
        return Floor([self.points[number] for number in numbers])

    def without(self, number):
        """Return the floor without this point."""
        check_number(number, len(self.points))
        return self.only(others(len(self.points), number))

    def plus(self, point):
        """Return the floor with one more point at the end."""
        check_point(point)
        if len(self.points) == Floor.MOST:
            raise WrongCount(Floor.MOST + 1)
        return Floor([*self.points, point])


def check_point(point):
    """Refuse the first coordinate of a point that is out of range."""
    for value in point:
        check_range(value, -Floor.FAR, Floor.FAR)


def check_turns(points):
    """Refuse the first three points that lie on a line."""
    for a, b, c in subset_list(len(points), 3):
        if bare_area(points[a], points[b], points[c]) == 0:
            raise OnLine((a, b, c))


def others(n, number):
    """Return the numbers of n points without this one."""
    return [k for k in range(n) if k != number]
