"""Subsets that are cut off by a line."""

from everybowl.checks import check_size
from everybowl.errors import Crossed
from everybowl.linerows import line_row, lines_and_lefts, lines_with
from everybowl.nudges import nudged_line
from everybowl.patterns import crossed_four


def is_cut(floor, subset):
    """Tell whether a subset is cut off by a line."""
    return crossed_four(floor, subset) is None


def cuts(floor, size):
    """Return the subsets of this size that are cut off by a line, in ascending order."""
    check_size(size, 0, len(floor))
    if size in (0, len(floor)):
        return [tuple(range(size))]
    # A line that cuts off a subset can be moved until it leads from a member to another point, with all other
    # members on its left; this line tells the subset, and each directed line tells one.
    return sorted([tuple(sorted([*floor.left_of(a, b), a])) for a, b in lines_with(floor, size - 1)])


def cut_counts(floor):
    """Return for each size from 0 to n how many subsets of this size are cut off by a line."""
    return [1, *line_row(floor), 1]


def line_for(floor, subset):
    """Return integers (p, q, r) such that p * x + q * y + r is positive at the members and negative elsewhere."""
    four = crossed_four(floor, subset)
    if four is not None:
        raise Crossed(four)
    line = resting_line(floor, subset)
    return nudged_line(floor, line, [1 if number in subset else -1 for number in line])


def resting_line(floor, subset):
    """Return a directed line with exactly those members on its left that it does not lead through."""
    return [
        line
        for line, _ in lines_and_lefts(floor)
        if floor.left_of(*line) == sorted([number for number in subset if number not in line])
    ][0]
