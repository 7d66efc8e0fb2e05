"""Points that are nearest to a place, and subsets that lie in a circle."""

from everybowl.bowls import Bowl
from everybowl.checks import check_numbers, check_size
from everybowl.lowered import plane_for
from everybowl.prices import lowest_by, whole_costs
from everybowl.ratios import Ratio, check_short
from everybowl.turns import on_paraboloid


def nearest(floor, x, y, size):
    """Return the subset of so many points that are nearest to the place (x, y)."""
    check_short(x)
    check_short(y)
    check_size(size, 0, len(floor))
    # With the heights x * x + y * y, costs at these prices are squared distances, all less by the same amount.
    places = [on_paraboloid(point) for point in floor.points]
    return lowest_by(whole_costs(places, x * 2, y * 2), size)


def hoop(floor, subset):
    """Return the Ratios (x, y, square) of a circle with exactly the members of a subset inside of it."""
    check_numbers(subset, len(floor))
    alpha, beta, gamma = plane_for(Bowl.circular(floor), subset)
    # The circle is where x * x + y * y is the height of the plane.
    x, y = alpha * Ratio(1, 2), beta * Ratio(1, 2)
    return x, y, x * x + y * y + gamma
