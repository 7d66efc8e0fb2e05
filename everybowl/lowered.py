"""Subsets that lie under a plane."""

from everybowl.checks import check_size
from everybowl.choices import subset_list
from everybowl.errors import Barred
from everybowl.nudges import nudged_plane
from everybowl.patterns import barred_four
from everybowl.tables import tally


def is_lowered(raised, subset):
    """Tell whether a subset lies under a plane."""
    return barred_four(raised, subset) is None


def check_lowered(raised, subset):
    """Refuse a subset that does not lie under a plane."""
    four = barred_four(raised, subset)
    if four is not None:
        raise Barred(four)


def lowered(raised, size):
    """Return the subsets of this size that lie under a plane, in ascending order."""
    check_size(size, 0, len(raised))
    return [subset for subset in lowered_subsets(raised) if len(subset) == size]


def lowered_counts(raised):
    """Return for each size from 0 to n how many subsets of this size lie under a plane."""
    return tally([len(subset) for subset in lowered_subsets(raised)], len(raised) + 1)


def lowered_subsets(raised):
    """Return all subsets that lie under a plane, in ascending order."""
    # The plane above a subset can be moved until it leads through three raised points; and a plane through three
    # can be moved past them in such a way that any of the three, and no others, come below it.
    return sorted({
        tuple(sorted([*below, *part]))
        for three, below in planes_and_belows(raised)
        for part in parts_of(three)
    })


def planes_and_belows(raised):
    """Return all triangles, in ascending order, each with the numbers of the raised points below its plane."""
    return [(three, raised.below(*three)) for three in subset_list(len(raised), 3)]


def parts_of(members):
    """Return all subsets of a tuple."""
    found = [()]
    for member in members:
        found = [*found, *[(*part, member) for part in found]]
    return found


def plane_for(raised, subset):
    """Return the Ratios (alpha, beta, gamma) of a plane with exactly the members of a subset below it."""
    check_lowered(raised, subset)
    three = resting_triangle(raised, subset)
    return nudged_plane(raised, three, [1 if number in subset else -1 for number in three])


def resting_triangle(raised, subset):
    """Return the first triangle whose plane has below it a lowered subset less the points of the triangle."""
    return [
        three
        for three, below in planes_and_belows(raised)
        if below == sorted([number for number in subset if number not in three])
    ][0]
