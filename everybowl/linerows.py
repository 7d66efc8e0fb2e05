"""Directed lines, counted by the points on their left."""

from math import comb

from everybowl.checks import check_number, check_size
from everybowl.floors import others
from everybowl.tables import tally


def line_row(floor):
    """Return the list whose entry at j tells how many directed lines have j points on their left."""
    return tally([left for line, left in lines_and_lefts(floor)], len(floor) - 1)


def lines_with(floor, count):
    """Return the directed lines with so many points on their left, in ascending order."""
    check_size(count, 0, len(floor) - 2)
    return [line for line, left in lines_and_lefts(floor) if left == count]


def lines_and_lefts(floor):
    """Return all directed lines (a, b), in ascending order, each with the number of points on its left."""
    n = len(floor)
    return [((a, b), len(floor.left_of(a, b))) for a in range(n) for b in others(n, a)]


def corner_row(floor):
    """Return for each size from 3 to n how many corners all subsets of this size have together."""
    return corners_by_lines(line_row(floor))


def corners_by_lines(row):
    """Return the corner row that a line row tells."""
    n = len(row) + 1
    # A line with nothing of the subset on its left joins two neighbours on the subset's rim, and it counts
    # for one of its corners: the other members are chosen among the points on its right.
    return [sum([row[j] * comb(n - 2 - j, size - 2) for j in range(n - 1)]) for size in range(3, n + 1)]


def round_point(floor, number):
    """Return the other numbers in counterclockwise order around a point, the lowest one first."""
    n = len(floor)
    check_number(number, n)
    first = others(n, number)[0]
    left = floor.left_of(number, first)
    right = floor.left_of(first, number)
    return [first, *in_order(floor, number, left), *in_order(floor, number, right)]


def in_order(floor, number, half):
    """Return points on one side of a line through a point in counterclockwise order around this point."""
    # Within half a turn, the place of a point is the number of points that it has on its right.
    return sorted(half, key=lambda c: len([d for d in floor.left_of(c, number) if d in half]))
