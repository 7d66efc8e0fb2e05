"""Triangles around a spot, counted by the raised points below their planes."""

from everybowl.bowls import check_floors
from everybowl.nets import lower_net, upper_net
from everybowl.tables import tally


def height_row(raised, spot):
    """Return the list whose entry at j tells how many triangles around the spot have j raised points below them."""
    check_floors(raised, spot)
    return tally([len(raised.below(*three)) for three in spot.triangles()], len(raised) - 2)


def low_triangle(raised, spot):
    """Return the triangle of the lower net around the spot, or None."""
    check_floors(raised, spot)
    return first_around(lower_net(raised), spot)


def high_triangle(raised, spot):
    """Return the triangle of the upper net around the spot, or None."""
    check_floors(raised, spot)
    return first_around(upper_net(raised), spot)


def first_around(net, spot):
    """Return the first triangle of a net that is around the spot, or None."""
    around = spot.triangles()
    found = [three for three in net if three in around]
    return found[0] if found else None
