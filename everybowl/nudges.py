"""Planes and lines through points, moved past these points by so little that all other points stay on their sides."""

from everybowl.ratios import Ratio
from everybowl.turns import bare_plane

# The doubled area of three points of a floor is at most 4 * 10 ** 12. A plane through three raised points is off
# every other one by at least 1 / area, and if it moves by 1 / FINE at the three, it moves by at most
# 3 * 4 * 10 ** 12 / (FINE * area) at any other point. What is off a line is off by a doubled area of at least 1.
FINE = 10 ** 14


def nudged_plane(raised, three, ways):
    """Return the Ratios (alpha, beta, gamma) of the plane through three raised points, moved a little at each one.

    For each of the three there is a way: 1 leads the plane up there, -1 down, and with 0 it stays.
    """
    p, q, r = [finer_place(raised, number, way) for number, way in zip(three, ways)]
    alpha, beta, gamma, area = bare_plane(p, q, r)
    return Ratio(alpha, FINE * area), Ratio(beta, FINE * area), Ratio(gamma, FINE * area)


def finer_place(raised, number, way):
    """Return the raised point, moved this way, with its height measured in parts of which 1 has FINE."""
    x, y = raised.floor.points[number]
    return x, y, FINE * raised.heights[number] + way


def nudged_line(floor, line, ways):
    """Return integers (p, q, r) that tell of each point on which side of a directed line through two points it is.

    p * x + q * y + r is positive on the left and negative on the right of the line; at its two points it has the
    signs of the ways.
    """
    (ax, ay), (bx, by) = [floor.points[number] for number in line]
    dx, dy = bx - ax, by - ay
    start, end = ways
    # FINE times the doubled area with the line, and what grows along the line to the way at its start and its end.
    p = (end - start) * dx - FINE * dy
    q = (end - start) * dy + FINE * dx
    r = FINE * (dy * ax - dx * ay) + start * (dx * bx + dy * by) - end * (dx * ax + dy * ay)
    return p, q, r
