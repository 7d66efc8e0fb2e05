"""Pencils: a plane that turns around the line through two raised points."""

from everybowl.fours import rest_of


def pencil(raised, a, b):
    """Return the other points in the order in which the plane, rising on the left of (a, b), meets them."""
    left, right = raised.floor.left_of(a, b), raised.floor.left_of(b, a)
    # The place of a point is the number of points that the plane has met before it.
    return sorted([*left, *right], key=lambda c: len(met_before(raised, (a, b, c), left)))


def met_before(raised, three, left):
    """Return the points that the plane has met when it is the plane of the three."""
    below, above = raised.below(*three), raised.above(*three)
    return [*[d for d in below if d in left], *[d for d in above if d not in left]]


def pencil_sets(raised, a, b):
    """Return the subsets below the plane of the pencil: at first, and then after each meeting."""
    order = pencil(raised, a, b)
    found = [tuple(raised.floor.left_of(b, a))]
    for number in order:
        found.append(exchanged(found[-1], number))
    return found


def exchanged(subset, number):
    """Return the subset without the number if it has it, otherwise with it."""
    return rest_of(subset, number) if number in subset else tuple(sorted([*subset, number]))
