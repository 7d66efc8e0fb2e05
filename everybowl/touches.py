"""Planes that touch raised points from below, and heights that are a bowl."""

from everybowl.checks import check_number
from everybowl.errors import NotTouched
from everybowl.fours import inner_pairs
from everybowl.nets import lower_net
from everybowl.nudges import nudged_plane


def touching(raised, number):
    """Return the slopes of a plane through a raised point that has all other raised points above it."""
    check_number(number, len(raised))
    star = [three for three in lower_net(raised) if number in three]
    if star == []:
        raise NotTouched([three for three, inner in high_pairs(raised) if inner == number][0])
    three = star[0]
    alpha, beta, _ = nudged_plane(raised, three, [0 if corner == number else -1 for corner in three])
    return alpha, beta


def first_high(raised):
    """Return the first high pair in ascending order, or None if the heights are a bowl."""
    found = high_pairs(raised)
    return found[0] if found else None


def high_pairs(raised):
    """Return the pairs of a triangle and a point within it on the floor that is above its plane."""
    return [(three, number) for three, number in inner_pairs(raised.floor) if raised.over(*three, number) == 1]


def is_bowl(raised):
    """Tell whether the heights are a bowl."""
    return first_high(raised) is None
