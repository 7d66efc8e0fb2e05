"""Costs of raised points at prices, and the subsets that are cheapest."""

from everybowl.checks import check_size
from everybowl.choices import subset_list
from everybowl.errors import Tied
from everybowl.lowered import plane_for
from everybowl.raised import raised_places
from everybowl.ratios import Ratio, check_short
from everybowl.times import zero_moments


def costs(raised, alpha, beta):
    """Return the costs of all points at the prices (alpha, beta), as Ratios."""
    check_short(alpha)
    check_short(beta)
    return [Ratio(cost, alpha.bottom * beta.bottom) for cost in whole_costs(raised_tuples(raised), alpha, beta)]


def raised_tuples(raised):
    """Return the tuple of the raised points (x, y, z)."""
    return raised_places(raised.floor, raised.heights)


def whole_costs(places, alpha, beta):
    """Return the costs of places (x, y, z), times the bottoms of both prices: integers."""
    whole, along_x, along_y = alpha.bottom * beta.bottom, alpha.top * beta.bottom, beta.top * alpha.bottom
    return [whole * z - along_x * x - along_y * y for x, y, z in places]


def cheapest(raised, alpha, beta, size):
    """Return the subset of so many points with the lowest costs."""
    check_short(alpha)
    check_short(beta)
    check_size(size, 0, len(raised))
    return lowest_by(whole_costs(raised_tuples(raised), alpha, beta), size)


def lowest_by(amounts, size):
    """Return the subset of so many points with the lowest amounts, and refuse a tie."""
    tied = tied_points(amounts, size)
    if tied != []:
        raise Tied((tied[0], tied[1]))
    ranked = sorted(range(len(amounts)), key=lambda number: amounts[number])
    return tuple(sorted(ranked[:size]))


def tied_points(amounts, size):
    """Return the points with the highest one of so many lowest amounts if it is also the next one, otherwise none."""
    if size in (0, len(amounts)):
        return []
    ranked = sorted(amounts)
    if ranked[size - 1] != ranked[size]:
        return []
    return [number for number, amount in enumerate(amounts) if amount == ranked[size]]


def prices_for(raised, subset):
    """Return prices at which a subset is the cheapest one of its size without a tie."""
    # What a point costs is how high a plane with the prices as slopes is where it leads through the point.
    alpha, beta, _ = plane_for(raised, subset)
    return alpha, beta


def price_steps(raised, start, goal, size):
    """Yield (time, gone, come) for each change of the cheapest subset while the prices move from start to goal."""
    for price in (*start, *goal):
        check_short(price)
    check_size(size, 0, len(raised))
    places = raised_tuples(raised)
    first = [cost * bottoms(goal) for cost in whole_costs(places, *start)]
    last = [cost * bottoms(start) for cost in whole_costs(places, *goal)]
    lowest_by(first, size)
    lowest_by(last, size)
    yield from steps_between(first, last, size)


def bottoms(prices):
    """Return the product of the bottoms of two Ratios."""
    alpha, beta = prices
    return alpha.bottom * beta.bottom


def steps_between(first, last, size):
    """Return (time, gone, come) for each change of the lowest subset while the amounts move from first to last."""
    found = []
    for time in meeting_times(first, last):
        tied = tied_points(amounts_at(first, last, time), size)
        if len(tied) > 2:
            raise Tied((tied[0], tied[1]))
        if tied != []:
            # Of two points that meet at the border, the one that was lower at first goes out.
            gone, come = sorted(tied, key=lambda number: first[number])
            found.append((time, gone, come))
    return found


def meeting_times(first, last):
    """Return the times at which some two amounts meet, in ascending order."""
    pairs = subset_list(len(first), 2)
    moments = zero_moments([((a, b), first[a] - first[b], last[a] - last[b]) for a, b in pairs])
    times = [time for time, pair in moments]
    return [time for place, time in enumerate(times) if time not in times[:place]]


def amounts_at(first, last, time):
    """Return the amounts at a time, times its bottom."""
    rest = time.bottom - time.top
    return [rest * before + time.top * after for before, after in zip(first, last)]
