"""Changes of all points of a floor at once; a Floor refuses new coordinates that are out of range."""

from everybowl.checks import check_range
from everybowl.floors import Floor

FARTHEST_MOVE = 2000000
MOST_TIMES = 1000


def moved(floor, dx, dy):
    """Return the floor with dx and dy added to the coordinates."""
    check_range(dx, -FARTHEST_MOVE, FARTHEST_MOVE)
    check_range(dy, -FARTHEST_MOVE, FARTHEST_MOVE)
    return Floor([(x + dx, y + dy) for x, y in floor.points])


def sheared(floor, k):
    """Return the floor with (x + k * y, y) in place of (x, y)."""
    check_range(k, -MOST_TIMES, MOST_TIMES)
    return Floor([(x + k * y, y) for x, y in floor.points])


def scaled(floor, m):
    """Return the floor with all coordinates multiplied by m."""
    check_range(m, 1, MOST_TIMES)
    return Floor([(m * x, m * y) for x, y in floor.points])


def mirrored(floor):
    """Return the floor with (-x, y) in place of (x, y); left and right are exchanged there."""
    return Floor([(-x, y) for x, y in floor.points])


def quartered(floor):
    """Return the floor turned counterclockwise by a quarter, with (-y, x) in place of (x, y)."""
    return Floor([(-y, x) for x, y in floor.points])
