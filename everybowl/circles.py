"""Circles through three points of a floor."""

from everybowl.checks import check_numbers
from everybowl.ratios import Ratio
from everybowl.turns import bare_plane, bare_ring_sign, on_paraboloid


def circle(floor, a, b, c):
    """Return the centre (x, y) of the circle through three points, and the square of its radius, as Ratios."""
    p, q, r = corner_places(floor, a, b, c)
    # The plane through the points with the heights x * x + y * y is above the inside of the circle alone:
    # x * x + y * y = alpha * x + beta * y + gamma is the circle.
    alpha, beta, gamma, area = bare_plane(on_paraboloid(p), on_paraboloid(q), on_paraboloid(r))
    square = Ratio(alpha * alpha + beta * beta + 4 * gamma * area, 4 * area * area)
    return Ratio(alpha, 2 * area), Ratio(beta, 2 * area), square


def inside_circle(floor, a, b, c):
    """Return the numbers of the points inside of the circle through three points."""
    p, q, r = corner_places(floor, a, b, c)
    return [d for d, place in enumerate(floor.points) if bare_ring_sign(p, q, r, place) == 1]


def corner_places(floor, a, b, c):
    """Return three different points of a floor."""
    check_numbers((a, b, c), len(floor))
    return floor.points[a], floor.points[b], floor.points[c]
