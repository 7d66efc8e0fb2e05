"""Bowls: raised points each of which some plane touches from below."""

from everybowl.checks import check_range
from everybowl.errors import NotBowl, OtherFloor
from everybowl.raised import Raised
from everybowl.touches import first_high

MOST_TIMES = 1000


class Bowl(Raised):
    """A floor with heights that are a bowl."""

    def __init__(self, floor, heights):
        super().__init__(floor, heights)
        high = first_high(self)
        if high is not None:
            triangle, number = high
            raise NotBowl(triangle, number)

    @classmethod
    def circular(cls, floor):
        """Return the bowl with the heights x * x + y * y, in which the planes are the circles of the floor."""
        return cls(floor, [x * x + y * y for x, y in floor.points])

    def __add__(self, other):
        check_floors(self, other)
        return Bowl(self.floor, [mine + more for mine, more in zip(self.heights, other.heights)])

    def __mul__(self, other):
        check_range(other, 1, MOST_TIMES)
        return Bowl(self.floor, [height * other for height in self.heights])

    def __or__(self, other):
        check_floors(self, other)
        return Bowl(self.floor, [max(mine, more) for mine, more in zip(self.heights, other.heights)])

    def only(self, numbers):
        """Return the bowl of the listed raised points, in the order of the list."""
        return as_bowl(super().only(numbers))

    def without(self, number):
        """Return the bowl without this raised point."""
        return as_bowl(super().without(number))

    def plus(self, point, height):
        """Return the bowl with one more raised point at the end."""
        return as_bowl(super().plus(point, height))

    def tilted(self, a, b, c):
        """Return the bowl with a * x + b * y + c added to each height."""
        return as_bowl(super().tilted(a, b, c))


def as_bowl(raised):
    """Return the bowl with the floor and the heights of raised points."""
    return Bowl(raised.floor, raised.heights)


def check_floors(first, second):
    """Refuse raised points over different floors."""
    if first.floor != second.floor:
        raise OtherFloor()
