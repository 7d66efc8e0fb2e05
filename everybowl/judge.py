"""Judging papers: whether what they show is true of raised points and their floor."""

from everybowl.bowls import Bowl
from everybowl.errors import OnPlane
from everybowl.fours import is_around, split
from everybowl.patterns import barred_part
from everybowl.prices import whole_costs
from everybowl.raised import raised_places
from everybowl.turns import sign_of


def is_corner_paper(raised, number, line):
    """Tell whether the integers part a point from all others."""
    return are_points(raised, [number]) and parts_off(raised, [number], line)


def is_within_paper(raised, number, triangle, weights):
    """Tell whether positive weights of the corners of a triangle give a point."""
    if not are_points(raised, [number, *triangle]) or min(weights) < 1:
        return False
    points = raised.floor.points
    x, y = points[number]
    along_x = [weight * (points[corner][0] - x) for corner, weight in zip(triangle, weights)]
    along_y = [weight * (points[corner][1] - y) for corner, weight in zip(triangle, weights)]
    return sum(along_x) == 0 and sum(along_y) == 0


def is_cut_paper(raised, subset, line):
    """Tell whether the line with these integers cuts a subset off."""
    return are_points(raised, subset) and parts_off(raised, subset, line)


def is_crossed_paper(raised, subset, four):
    """Tell whether a four crosses a subset."""
    if not are_points(raised, subset) or not are_points(raised, four):
        return False
    return members_among(four, subset) in split(raised.floor, *four)


def is_under_paper(raised, subset, plane):
    """Tell whether exactly a subset is below a plane, and all other raised points are above it."""
    alpha, beta, gamma = plane
    costs = whole_costs(raised_places(raised.floor, raised.heights), alpha, beta)
    level = gamma.top * alpha.bottom * beta.bottom
    sides = [sign_of(cost * gamma.bottom - level) for cost in costs]
    return are_points(raised, subset) and sides == sides_with(raised, subset, -1)


def is_barred_paper(raised, subset, four):
    """Tell whether a four bars a subset."""
    if not are_points(raised, subset) or not are_points(raised, four):
        return False
    return members_among(four, subset) == barred_part(raised, *four)


def is_touched_paper(raised, number, slopes):
    """Tell whether slopes touch at a raised point."""
    if not are_points(raised, [number]):
        return False
    places = raised_places(raised.floor, raised.heights)
    costs = whole_costs(places, *slopes)
    return all([cost > costs[number] for other, cost in enumerate(costs) if other != number])


def is_high_paper(raised, number, triangle):
    """Tell whether a raised point is above the plane of a triangle around it."""
    if not are_points(raised, [number, *triangle]):
        return False
    return is_around(raised.floor, triangle, number) and raised.over(*triangle, number) == 1


def is_bowl_paper(raised, slopes):
    """Tell whether there are slopes for each raised point, which touch there."""
    touched = [is_touched_paper(raised, number, pair) for number, pair in enumerate(slopes)]
    return len(slopes) == len(raised) and all(touched)


def is_hoop_paper(raised, subset, circle):
    """Tell whether exactly a subset is inside of a circle, and all other points are farther."""
    x, y, square = circle
    whole = x.bottom * y.bottom
    level = square.top * whole * whole
    sides = [
        sign_of(square.bottom * whole_square(px * whole - x.top * y.bottom, py * whole - y.top * x.bottom) - level)
        for px, py in raised.floor.points
    ]
    return are_points(raised, subset) and sides == sides_with(raised, subset, -1)


def is_unhooped_paper(raised, subset, four):
    """Tell whether a four bars a subset in the bowl of the circles, if there is this bowl."""
    try:
        bowl = Bowl.circular(raised.floor)
    except OnPlane:
        return False
    return is_barred_paper(bowl, subset, four)


def are_points(raised, numbers):
    """Tell whether numbers are different numbers of points."""
    return len(set(numbers)) == len(numbers) and all([0 <= number < len(raised) for number in numbers])


def parts_off(raised, subset, line):
    """Tell whether p * x + q * y + r is positive at the members of a subset and negative at all other points."""
    p, q, r = line
    return [sign_of(p * x + q * y + r) for x, y in raised.floor.points] == sides_with(raised, subset, 1)


def sides_with(raised, subset, side):
    """Return for each point this side if it is a member of a subset, otherwise the other side."""
    return [side if number in subset else -side for number in range(len(raised))]


def members_among(four, subset):
    """Return those of four numbers that are members of a subset, as an ascending tuple."""
    return tuple(sorted([number for number in four if number in subset]))


def whole_square(x, y):
    """Return the squared length of the way (x, y)."""
    return x * x + y * y


JUDGES = {
    "corner": is_corner_paper, "within": is_within_paper, "cut": is_cut_paper, "crossed": is_crossed_paper,
    "under": is_under_paper, "barred": is_barred_paper, "touched": is_touched_paper, "high": is_high_paper,
    "bowl": is_bowl_paper, "hoop": is_hoop_paper, "unhooped": is_unhooped_paper,
}


def accepts(raised, paper):
    """Tell whether a paper is true of the raised points and their floor."""
    word, *parts = paper
    judge = JUDGES[word]
    return judge(raised, *parts)


def accepted(raised, *papers):
    """Return for each paper whether it is true."""
    return [accepts(raised, paper) for paper in papers]
