"""Travels: a point of a floor moves straight to a place, and on its way three points come to lie on a line."""

from everybowl.checks import check_number
from everybowl.choices import subset_list
from everybowl.errors import Meets
from everybowl.floors import Floor, others
from everybowl.fours import rest_of
from everybowl.tables import tally
from everybowl.times import zero_moments
from everybowl.turns import bare_area


class Event:
    """A moment between the times 0 and 1 at which points that must turn do not, among so many points."""

    def __init__(self, time, size):
        self.time = time
        self.size = size


class FloorEvent(Event):
    """A moment at which the middle one of three points crosses the directed line through the two ends."""

    def __init__(self, time, size, middle, ends, left, right, to_right):
        super().__init__(time, size)
        self.middle = middle
        self.ends = ends
        self.left = left
        self.right = right
        self.to_right = to_right

    @property
    def line_change(self):
        """The change of the line row."""
        low, high = sides(self)
        return steps_row(self.size - 1, [low + 1, high], [low, high + 1])

    @property
    def fours_change(self):
        """The change of the number of convex fours."""
        low, high = sides(self)
        return low - high

    @property
    def plane_change(self):
        """The change of the plane row of a bowl."""
        low, high = sides(self)
        return steps_row(self.size - 2, [low], [high])


def sides(event):
    """Return how many other points are on the side that the middle point leaves, and on the side that it enters."""
    return (event.left, event.right) if event.to_right else (event.right, event.left)


def steps_row(length, rises, falls):
    """Return the row that has 1 more for each of the places in `rises`, and 1 less for each one in `falls`."""
    return [up - down for up, down in zip(tally(rises, length), tally(falls, length))]


def travelled(floor, number, x, y):
    """Return the floor in which one point has moved to the place (x, y)."""
    check_number(number, len(floor))
    return Floor([(x, y) if k == number else point for k, point in enumerate(floor.points)])


def floor_events(floor, number, x, y):
    """Return the events of a travel, in ascending order of their times and of the pairs of the points that stay."""
    goal = travelled(floor, number, x, y)
    check_meetings(floor, number, (x, y))
    pairs = [pair for pair in subset_list(len(floor), 2) if number not in pair]
    moments = zero_moments([(pair, floor.area(number, *pair), goal.area(number, *pair)) for pair in pairs])
    return [line_event(floor, number, (x, y), time, pair) for time, pair in moments]


def check_meetings(floor, number, goal):
    """Refuse a travel over the place of another point."""
    for other in others(len(floor), number):
        if lies_between(floor.points[number], goal, floor.points[other]):
            raise Meets(other)


def lies_between(start, end, place):
    """Tell whether a place is on the segment between two others."""
    return bare_area(start, end, place) == 0 and sorted([start, end, place])[1] == place


def line_event(floor, number, goal, time, pair):
    """Return the event of the moving point and two others, which lie on a line at this time."""
    in_row = row_at(floor, number, goal, time, pair)
    start, middle, end = in_row if in_row[0] < in_row[2] else in_row[::-1]
    # The two points that stay tell the sides, in the direction that the ends have.
    line = rest_of((start, middle, end), number)
    left = len(rest_of(floor.left_of(*line), number))
    to_right = floor.turn(start, end, middle) == 1
    return FloorEvent(time, len(floor), middle, (start, end), left, len(floor) - 3 - left, to_right)


def row_at(floor, number, goal, time, pair):
    """Return the moving point and two others in the order in which they lie on a line at a time."""
    (x, y), (goal_x, goal_y) = floor.points[number], goal
    rest = time.bottom - time.top
    # All places are measured in parts of which the bottom of the time makes 1.
    places = {other: (time.bottom * floor.points[other][0], time.bottom * floor.points[other][1]) for other in pair}
    places[number] = (rest * x + time.top * goal_x, rest * y + time.top * goal_y)
    return sorted(places, key=lambda k: places[k])
