"""Fours that tell of a subset that it lies under no plane, or that no line cuts it off."""

from everybowl.checks import check_numbers
from everybowl.choices import subset_list
from everybowl.fours import split


def barred_part(raised, a, b, c, d):
    """Return the part of four raised points that is not lowered among them, an ascending tuple."""
    first, second = split(raised.floor, a, b, c, d)
    four = (*first, *second)
    # The last of the four belongs to the second part, and it is above the plane of the other three exactly if the
    # second part is higher at the meeting point.
    return second if raised.over(*four) == 1 else first


def barred_four(raised, subset):
    """Return the first four that bars a subset, or None."""
    check_numbers(subset, len(raised))
    for four, members in mixed_fours(len(raised), subset):
        if barred_part(raised, *four) == members:
            return four
    return None


def crossed_four(floor, subset):
    """Return the first four that crosses a subset, or None."""
    check_numbers(subset, len(floor))
    for four, members in mixed_fours(len(floor), subset):
        if members in split(floor, *four):
            return four
    return None


def mixed_fours(n, subset):
    """Return the fours with one to three members in a subset, in ascending order, each with these members."""
    fours = [(four, tuple([number for number in four if number in subset])) for four in subset_list(n, 4)]
    return [(four, members) for four, members in fours if len(members) in (1, 2, 3)]
