"""What the tests of papers share: whether a paper is true, told by the words of points 68 and 71 with fractions."""

from itertools import combinations

from everybowl.raised import Raised
from tests.heights import barred_told, fraction, parts_told, places_of, rise
from tests.helpers import lies_within


def is_true(raised, paper):
    """Whether a paper is true."""
    word, *parts = paper
    return TESTS[word](raised, *parts)


def different(raised, numbers):
    return len(set(numbers)) == len(numbers) and set(numbers) <= set(range(len(raised)))


def parted(raised, subset, line):
    p, q, r = line
    values = [p * x + q * y + r for x, y in raised.floor.points]
    return all(value > 0 if k in subset else value < 0 for k, value in enumerate(values))


def is_corner(raised, number, line):
    return different(raised, [number]) and parted(raised, [number], line)


def is_within(raised, number, triangle, weights):
    if not different(raised, [number, *triangle]) or min(weights) <= 0:
        return False
    points = raised.floor.points
    sums = [sum(w * points[k][at] for w, k in zip(weights, triangle)) for at in (0, 1)]
    return sums == [sum(weights) * part for part in points[number]]


def is_cut(raised, subset, line):
    return different(raised, subset) and parted(raised, subset, line)


def is_crossed(raised, subset, four):
    if not different(raised, subset) or not different(raised, four):
        return False
    return tuple(sorted(set(four) & set(subset))) in parts_told(raised.floor, sorted(four))


def is_barred(raised, subset, four):
    if not different(raised, subset) or not different(raised, four):
        return False
    return tuple(sorted(set(four) & set(subset))) == barred_told(raised, sorted(four))


def is_under(raised, subset, plane):
    alpha, beta, gamma = map(fraction, plane)
    above = [z - alpha * x - beta * y - gamma for x, y, z in places_of(raised)]
    return different(raised, subset) and all(a < 0 if k in subset else a > 0 for k, a in enumerate(above))


def is_touched(raised, number, slopes):
    if not different(raised, [number]):
        return False
    alpha, beta = map(fraction, slopes)
    costs = [z - alpha * x - beta * y for x, y, z in places_of(raised)]
    return all(cost > costs[number] for k, cost in enumerate(costs) if k != number)


def is_high(raised, number, triangle):
    if not different(raised, [number, *triangle]) or not lies_within(raised.floor, triangle, number):
        return False
    return rise(places_of(raised), *triangle, number) > 0


def is_bowl(raised, slopes):
    return len(slopes) == len(raised) and all(is_touched(raised, k, pair) for k, pair in enumerate(slopes))


def is_hoop(raised, subset, circle):
    x, y, square = map(fraction, circle)
    far = [(px - x) ** 2 + (py - y) ** 2 - square for px, py in raised.floor.points]
    return different(raised, subset) and all(a < 0 if k in subset else a > 0 for k, a in enumerate(far))


def ring_heights(raised):
    """The heights x * x + y * y, or None if four points lie on a circle."""
    heights = [x * x + y * y for x, y in raised.floor.points]
    places = [(x, y, z) for (x, y), z in zip(raised.floor.points, heights)]
    flat = any(rise(places, *four) == 0 for four in combinations(range(len(places)), 4))
    return None if flat else heights


def is_unhooped(raised, subset, four):
    heights = ring_heights(raised)
    return heights is not None and is_barred(Raised(raised.floor, heights), subset, four)


TESTS = {"corner": is_corner, "within": is_within, "cut": is_cut, "crossed": is_crossed, "under": is_under,
         "barred": is_barred, "touched": is_touched, "high": is_high, "bowl": is_bowl, "hoop": is_hoop,
         "unhooped": is_unhooped}

