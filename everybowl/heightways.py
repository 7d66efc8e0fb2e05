"""Changes of one height: while it rises or falls, the raised point crosses planes through three others."""

from everybowl.checks import check_number
from everybowl.choices import subset_list
from everybowl.floorways import Event, steps_row
from everybowl.fours import inner_of, rest_of
from everybowl.raised import Raised, raised_places
from everybowl.times import zero_moments
from everybowl.turns import bare_rise


class HeightEvent(Event):
    """A moment at which the moving raised point is on the plane of a triangle of others."""

    def __init__(self, time, size, triangle, inner, level, rising):
        super().__init__(time, size)
        self.triangle = triangle
        self.inner = inner
        self.level = level
        self.rising = rising

    @property
    def plane_change(self):
        """The change of the plane row."""
        low, high = [self.level] * 2, [self.level + 1] * 2
        if self.inner is None:
            return steps_row(self.size - 2, [], [])
        return steps_row(self.size - 2, high, low) if raises_inner(self) else steps_row(self.size - 2, low, high)

    @property
    def high_change(self):
        """The change of the high row."""
        if self.inner is None:
            return steps_row(self.size - 3, [], [])
        here = [self.level]
        return steps_row(self.size - 3, here, []) if raises_inner(self) else steps_row(self.size - 3, [], here)


def raises_inner(event):
    """Tell whether an event that has an inner point raises it above the plane of the other three."""
    is_moving = event.inner not in event.triangle
    return event.rising == is_moving


def lifted(raised, number, height):
    """Return the raised points in which one has this height."""
    check_number(number, len(raised))
    return Raised(raised.floor, [height if k == number else z for k, z in enumerate(raised.heights)])


def height_events(raised, number, height):
    """Return the events of a change of height, in ascending order of their times and of their triangles."""
    goal = lifted(raised, number, height)
    before, after = rises(raised, number), rises(goal, number)
    moments = zero_moments([(three, rise, after[three]) for three, rise in before.items()])
    rising = height > raised.heights[number]
    return [plane_event(raised, number, time, three, rising) for time, three in moments]


def rises(raised, number):
    """Return for each triangle of other points a measure of how much the raised point is above its plane."""
    places = raised_places(raised.floor, raised.heights)
    return {
        (a, b, c): bare_rise(places[a], places[b], places[c], places[number])
        for a, b, c in subset_list(len(raised), 3)
        if number not in (a, b, c)
    }


def plane_event(raised, number, time, triangle, rising):
    """Return the event at which the moving raised point is on the plane of a triangle."""
    level = len(rest_of(raised.below(*triangle), number))
    inner = inner_of(raised.floor, *triangle, number)
    return HeightEvent(time, len(raised), triangle, inner, level, rising)
