"""Means over all subsets of a size."""

from everybowl.checks import check_size
from everybowl.choices import choose
from everybowl.linerows import corner_row
from everybowl.planerows import net_row
from everybowl.ratios import Ratio


def mean_corners(floor, size):
    """Return the mean number of corners of the subsets of this size."""
    check_size(size, 3, len(floor))
    return Ratio(corner_row(floor)[size - 3], choose(len(floor), size))


def mean_triangles(raised, size):
    """Return the mean number of triangles of the lower nets of the subsets of this size."""
    check_size(size, 3, len(raised))
    return Ratio(net_row(raised)[size - 3], choose(len(raised), size))


def mean_net_points(raised, size):
    """Return the mean number of points of the lower nets of the subsets of this size."""
    # A net of v points over h corners has 2 * v - 2 - h triangles.
    twice = mean_triangles(raised, size) + mean_corners(raised.floor, size) + 2
    return twice * Ratio(1, 2)
