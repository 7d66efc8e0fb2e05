"""Turns, planes and circles of bare coordinates.

The functions whose names begin with `bare` look at no range; the other modules work with them.
"""

from everybowl.checks import check_range
from everybowl.errors import OnLine

FARTHEST = 10 ** 15


def doubled_area(p, q, r):
    """Return the doubled area of three tuples (x, y), positive if they turn left."""
    check_coordinates((p, q, r))
    return bare_area(p, q, r)


def height_sign(p, q, r, s):
    """Return 1, -1 or 0: s is above, below or on the plane through p, q and r, tuples (x, y, z)."""
    check_coordinates((p, q, r, s))
    check_turn(p, q, r)
    return bare_height_sign(p, q, r, s)


def ring_sign(p, q, r, s):
    """Return 1, -1 or 0: s is inside of, outside of or on the circle through p, q and r, tuples (x, y)."""
    check_coordinates((p, q, r, s))
    check_turn(p, q, r)
    return bare_ring_sign(p, q, r, s)


def check_coordinates(places):
    """Refuse the first coordinate out of range."""
    for place in places:
        for value in place:
            check_range(value, -FARTHEST, FARTHEST)


def check_turn(p, q, r):
    """Refuse three places on a line, through which no circle and no plane that is not upright leads."""
    if bare_area(p, q, r) == 0:
        raise OnLine((0, 1, 2))


def sign_of(value):
    """Return 1, -1 or 0 for an integer."""
    if value > 0:
        return 1
    return -1 if value < 0 else 0


def bare_area(p, q, r):
    """Return the doubled area of three places, of whose coordinates the first two count."""
    return (q[0] - p[0]) * (r[1] - p[1]) - (q[1] - p[1]) * (r[0] - p[0])


def bare_cross(first, second):
    """Return a positive integer if the second of two ways (x, y) from one place is on the left of the first."""
    return first[0] * second[1] - first[1] * second[0]


def bare_rise(p, q, r, s):
    """Return how much s is above the plane through p, q and r, times the doubled area of p, q and r."""
    return (
        (s[2] - p[2]) * bare_area(p, q, r)
        - (q[2] - p[2]) * bare_area(p, s, r)
        - (r[2] - p[2]) * bare_area(p, q, s)
    )


def bare_plane(p, q, r):
    """Return (alpha, beta, gamma, area): the plane through p, q and r times their doubled area, and this area."""
    # A place with the height 0 is below the plane by what the plane is high there.
    gamma = -bare_rise(p, q, r, (0, 0, 0))
    alpha = -bare_rise(p, q, r, (1, 0, 0)) - gamma
    beta = -bare_rise(p, q, r, (0, 1, 0)) - gamma
    return alpha, beta, gamma, bare_area(p, q, r)


def bare_height_sign(p, q, r, s):
    """Return what height_sign returns; p, q and r do not lie on a line."""
    return sign_of(bare_rise(p, q, r, s)) * sign_of(bare_area(p, q, r))


def bare_ring_sign(p, q, r, s):
    """Return what ring_sign returns; p, q and r do not lie on a line."""
    # With the heights x * x + y * y, a place is inside of a circle exactly if it is below its plane.
    return -bare_height_sign(on_paraboloid(p), on_paraboloid(q), on_paraboloid(r), on_paraboloid(s))


def on_paraboloid(place):
    """Return the place with the height x * x + y * y."""
    x, y = place
    return x, y, x * x + y * y


def is_within(p, q, r, s):
    """Tell whether s lies within the triangle of p, q and r; no three of the four lie on a line."""
    return (bare_area(p, q, s) > 0) == (bare_area(q, r, s) > 0) == (bare_area(r, p, s) > 0)
