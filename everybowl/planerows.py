"""Planes through three raised points, counted by the raised points below them."""

from everybowl.checks import check_number, check_size
from everybowl.choices import subset_list
from everybowl.fours import inner_pairs
from everybowl.tables import spread, tally


def plane_row(raised):
    """Return the list whose entry at j tells how many triangles have j raised points below their planes."""
    return tally([count for three, count in planes_and_counts(raised)], len(raised) - 2)


def planes_with(raised, count):
    """Return the triangles with so many raised points below their planes, in ascending order."""
    check_size(count, 0, len(raised) - 3)
    return [three for three, below in planes_and_counts(raised) if below == count]


def planes_and_counts(raised):
    """Return all triangles, in ascending order, each with the number of raised points below its plane."""
    return [(three, len(raised.below(*three))) for three in subset_list(len(raised), 3)]


def side_row(raised):
    """Return the plane row in which both sides of each plane are counted."""
    row = plane_row(raised)
    return [below + above for below, above in zip(row, row[::-1])]


def pole_row(raised, number):
    """Return the plane row of the planes through one raised point alone."""
    check_number(number, len(raised))
    return tally([count for three, count in planes_and_counts(raised) if number in three], len(raised) - 2)


def high_row(raised):
    """Return the list whose entry at j tells how many high pairs have j other raised points below the plane."""
    return tally(counts_of_pairs(raised, 1), len(raised) - 3)


def deep_row(raised):
    """Return the list whose entry at j tells how many deep pairs have j other raised points below the plane."""
    return tally(counts_of_pairs(raised, -1), len(raised) - 3)


def counts_of_pairs(raised, side):
    """Return for each inner pair with its point on this side of the plane how many other points are below it."""
    return [
        len([d for d in raised.below(*three) if d != number])
        for three, number in inner_pairs(raised.floor)
        if raised.over(*three, number) == side
    ]


def inner_row(raised):
    """Return the sums of the high row and the deep row, place by place."""
    return [high + deep for high, deep in zip(high_row(raised), deep_row(raised))]


def net_row(raised):
    """Return for each size from 3 to n how many triangles the lower nets of all subsets of this size have together."""
    return nets_by_planes(plane_row(raised))


def nets_by_planes(row):
    """Return the net row that a plane row tells."""
    # A triangle is in the lower net of a subset if the other members are chosen among the points above its plane,
    # and with j points below there are as many of these as the place in the reversed row tells.
    return spread(row[::-1])
