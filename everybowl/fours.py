"""Four points of a floor: convex, or one of them within the triangle of the others."""

from everybowl.checks import check_numbers
from everybowl.choices import choose, subset_list
from everybowl.turns import is_within


def inner_of(floor, a, b, c, d):
    """Return the one of four points that lies within the triangle of the others, or None."""
    four = (a, b, c, d)
    check_numbers(four, len(floor))
    for number in four:
        if is_around(floor, rest_of(four, number), number):
            return number
    return None


def split(floor, a, b, c, d):
    """Return the two parts of four points whose hulls meet, the one with the lowest number first."""
    inner = inner_of(floor, a, b, c, d)
    four = tuple(sorted([a, b, c, d]))
    part = diagonal(floor, four) if inner is None else (inner,)
    rest = tuple([number for number in four if number not in part])
    return (part, rest) if four[0] in part else (rest, part)


def diagonal(floor, four):
    """Return the diagonal of four convex points that begins with the first of them."""
    first = four[0]
    # Only the line of a diagonal has one of the two other points on its left.
    return [(first, last) for last in four[1:] if len(left_among(floor, first, last, four)) == 1][0]


def left_among(floor, a, b, four):
    """Return those of four points that are on the left of the directed line (a, b)."""
    return [number for number in floor.left_of(a, b) if number in four]


def inner_pairs(floor):
    """Return all pairs of a triangle and the number of a point within it, in ascending order."""
    n = len(floor)
    return [
        (three, number)
        for three in subset_list(n, 3)
        for number in range(n)
        if number not in three and is_around(floor, three, number)
    ]


def convex_fours(floor):
    """Return how many subsets of four convex points there are."""
    # Four points that are not convex make exactly one inner pair.
    return choose(len(floor), 4) - len(inner_pairs(floor))


def is_around(floor, three, number):
    """Tell whether a point lies within the triangle of three other points."""
    a, b, c = three
    return is_within(floor.points[a], floor.points[b], floor.points[c], floor.points[number])


def rest_of(numbers, number):
    """Return the tuple without this number."""
    return tuple([member for member in numbers if member != number])
