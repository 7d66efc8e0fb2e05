"""The lower net and the upper net of raised points: the triangles with nothing below or nothing above them."""

from everybowl.planerows import planes_with
from everybowl.raised import Raised


def lower_net(raised):
    """Return the triangles with no raised point below their planes, in ascending order."""
    return planes_with(raised, 0)


def upper_net(raised):
    """Return the triangles with no raised point above their planes, in ascending order."""
    return planes_with(raised, len(raised) - 3)


def net_points(raised):
    """Return the numbers that occur in the lower net, in ascending order."""
    return numbers_in(lower_net(raised))


def body_corners(raised):
    """Return the numbers that occur in the lower or in the upper net, in ascending order."""
    return numbers_in([*lower_net(raised), *upper_net(raised)])


def numbers_in(triangles):
    """Return the numbers that occur in triangles, in ascending order."""
    return sorted({number for three in triangles for number in three})


def net_change(raised, point, height):
    """Return the triangles that leave the lower net and those that enter it when one more raised point comes."""
    # The `plus` of a Bowl would refuse a new point with which the heights are no bowl.
    plain = Raised(raised.floor, raised.heights)
    after = lower_net(plain.plus(point, height))
    before = lower_net(plain)
    return [three for three in before if three not in after], [three for three in after if three not in before]
