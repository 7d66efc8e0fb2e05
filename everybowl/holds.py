"""Points held by a triangle, or parted from all others by a line."""

from math import gcd

from everybowl.checks import check_number
from everybowl.choices import subset_list
from everybowl.errors import Within
from everybowl.fours import is_around
from everybowl.rims import rim
from everybowl.turns import bare_area


def held_by(floor, number):
    """Return the first triangle around a point with weights that give the point, or None for a corner."""
    check_number(number, len(floor))
    for three in subset_list(len(floor), 3):
        if number not in three and is_around(floor, three, number):
            return three, weights(floor, three, number)
    return None


def weights(floor, three, number):
    """Return positive integers without a common divisor, by which three points give the point within them."""
    p, q, r = [floor.points[corner] for corner in three]
    place = floor.points[number]
    # Each corner weighs as much as the triangle of the point and the two other corners.
    u, v, w = bare_area(place, q, r), bare_area(p, place, r), bare_area(p, q, place)
    divisor = gcd(u, v, w)
    return abs(u) // divisor, abs(v) // divisor, abs(w) // divisor


def line_past(floor, number):
    """Return (p, q, r) such that p * x + q * y + r is positive at a corner and negative at all other points."""
    held = held_by(floor, number)
    if held is not None:
        raise Within(held[0])
    found = rim(floor)
    place = found.index(number)
    before, corner, behind = [floor.points[found[(place + step) % len(found)]] for step in (-1, 0, 1)]
    # The line from `before` to `behind`, moved to the corner, has all other points on its left, and each one's
    # doubled area with it is at least 1. So 1 less twice this area is positive at the corner alone.
    p, q = 2 * (behind[1] - before[1]), 2 * (before[0] - behind[0])
    return p, q, 1 - p * corner[0] - q * corner[1]
