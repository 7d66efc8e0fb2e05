"""What the tests of raised points share: exact planes, and heights of many kinds over floors of all sizes."""

from fractions import Fraction
from functools import lru_cache
from itertools import combinations

from everybowl.bowls import Bowl
from everybowl.floors import Floor
from everybowl.raised import Raised
from everybowl.ratios import Ratio
from tests.helpers import FAR, SAMPLE, WIDE, all_floors, doubled, lies_within, scattered

HIGH = 10 ** 15
HUGE = 10 ** 5000
DEEP = [0, 16, 16, 2]


def sign(value):
    return (value > 0) - (value < 0)


def rise(places, a, b, c, d):
    """The height of d above the plane through a, b and c, as a fraction, by the slopes of this plane."""
    alpha, beta, gamma = slopes(places, a, b, c)
    x, y, z = places[d]
    return z - alpha * x - beta * y - gamma


def slopes(places, a, b, c):
    p, q, r = places[a], places[b], places[c]
    area = doubled(p, q, r)
    alpha = Fraction((q[2] - p[2]) * (r[1] - p[1]) - (r[2] - p[2]) * (q[1] - p[1]), area)
    beta = Fraction((q[0] - p[0]) * (r[2] - p[2]) - (r[0] - p[0]) * (q[2] - p[2]), area)
    return alpha, beta, p[2] - alpha * p[0] - beta * p[1]


def places_of(raised):
    return [(x, y, z) for (x, y), z in zip(raised.floor.points, raised.heights)]


def is_general(floor, heights):
    """Whether no four raised points lie on a plane."""
    places = [(x, y, z) for (x, y), z in zip(floor.points, heights)]
    return all(rise(places, *four) != 0 for four in combinations(range(len(floor)), 4))


def scattered_heights(floor, seed, high):
    """Heights that look random, so that no four raised points lie on a plane."""
    source = scattered(seed)
    while True:
        heights = [next(source) * (2 ** 33) % (2 * high + 1) - high for _ in floor.points]
        if is_general(floor, heights):
            return heights


def bowl_heights(floor, seed):
    """Heights that are a bowl: within a triangle, x * x + y * y is at least 1 below the plane of the triangle."""
    source = scattered(seed)
    while True:
        heights = [400 * (x * x + y * y) + next(source) % 100 for x, y in floor.points]
        if is_general(floor, heights):
            return heights


def changed_heights(floor, seed, at):
    """The heights of a bowl with one point raised or lowered by much."""
    source = scattered(seed)
    base = bowl_heights(floor, seed)
    step = max(base) - min(base) + 1
    while True:
        heights = list(base)
        heights[at] += (next(source) % (2 * step)) - step
        if is_general(floor, heights) and abs(heights[at]) <= HIGH:
            return heights


def all_raised():
    floors = all_floors()
    return [Raised(floor, scattered_heights(floor, k, high))
            for k, floor in enumerate(floors) for high in (60 if k % 2 else HIGH,)]


@lru_cache(maxsize=None)
def many_raised():
    """Raised points of all sizes: drawn at will, bowls, heads of bowls turned over, and bowls with one point changed."""
    found = [Raised(SAMPLE_FLOOR, DEEP), Raised(SAMPLE_FLOOR, [0, 0, 0, 5]), Raised(SAMPLE_FLOOR, [0, 0, 0, -5])]
    for k, floor in enumerate(all_floors()):
        found.append(Raised(floor, scattered_heights(floor, k, 60 if k % 2 else HIGH)))
        found.append(Raised(floor, [-z for z in bowl_heights(floor, k)] if k % 3 == 0 else bowl_heights(floor, k)))
        found.append(Raised(floor, changed_heights(floor, k, k % len(floor))))
    return found


# Thin triangles with points at the ends of the range.
THIN = [(-FAR, -FAR), (FAR, FAR - 1), (FAR - 1, FAR - 2), (-1, -1), (FAR, -FAR), (1 - FAR, FAR)]


@lru_cache(maxsize=None)
def extreme_raised():
    """Coordinates and heights at the ends of their ranges, and planes as steep as they can be."""
    found = []
    for points in (WIDE, WIDE[::-1], THIN, THIN[1:] + THIN[:1], THIN[:4], THIN[:3]):
        for signs in ((1, -1), (1, 1, -1), (-1, 1, 1, 1), (-1, -1, 1), (1,), (-1,)):
            heights = [signs[k % len(signs)] * (HIGH - k * k * k) for k in range(len(points))]
            if is_general(Floor(points), heights):
                found.append(Raised(Floor(points), heights))
    return found


def small_raised(most):
    return [raised for raised in many_raised() if len(raised) <= most]


@lru_cache(maxsize=None)
def many_bowls():
    """Bowls of all sizes."""
    return [Bowl(floor, bowl_heights(floor, k)) for k, floor in enumerate(all_floors())]


SAMPLE_FLOOR = Floor(SAMPLE)


def belows(raised):
    """For each triangle the tuple of the numbers below its plane, told by fractions."""
    return belows_of(raised.floor.points, raised.heights)


@lru_cache(maxsize=None)
def belows_of(points, heights):
    places = [(x, y, z) for (x, y), z in zip(points, heights)]
    numbers = range(len(places))
    return {three: tuple([d for d in numbers if d not in three and rise(places, *three, d) < 0])
            for three in combinations(numbers, 3)}


def lower(raised):
    """The lower net."""
    return [three for three, below in belows(raised).items() if below == ()]


def pairs_beyond(raised, side):
    """The high pairs (side 1) or the deep pairs (side -1), each with the points below the plane."""
    return [((three, d), below) for three, below in belows(raised).items() for d in range(len(raised))
            if d not in three and lies_within(raised.floor, three, d) and (d in below) == (side == -1)]


def weights_of(floor, four):
    """Weights with the sum 0 under which the four points add up to nothing; the two signs are those of the split."""
    p, q, r, s = [floor.points[k] for k in four]
    return (doubled(q, r, s), -doubled(p, r, s), doubled(p, q, s), -doubled(p, q, r))


def parts_told(floor, four):
    """The two parts of the split."""
    weights = weights_of(floor, four)
    return [tuple([k for k, weight in zip(four, weights) if sign(weight) == side]) for side in (1, -1)]


def barred_told(raised, four):
    """The part that is higher at the meeting point."""
    weights = weights_of(raised.floor, four)
    rises = sum(weight * raised.heights[k] for k, weight in zip(four, weights))
    return tuple([k for k, weight in zip(four, weights) if weight * rises > 0])


def first_four(n, subset, bars):
    """The first four, in ascending order, whose members in the subset are among the parts that bar it, or None."""
    for four in combinations(range(n), 4):
        if tuple([k for k in four if k in subset]) in bars[four]:
            return four
    return None


def bars_of(raised):
    """For each four its barred part, in a list."""
    return {four: [barred_told(raised, four)] for four in combinations(range(len(raised)), 4)}


def crossings_of(floor):
    """For each four the two parts of its split."""
    return {four: parts_told(floor, four) for four in combinations(range(len(floor)), 4)}


def subsets_of(n):
    """All subsets of n numbers."""
    return [part for size in range(n + 1) for part in combinations(range(n), size)]


def fraction(ratio):
    return Fraction(ratio.top, ratio.bottom)


def is_short(value):
    return abs(value) < 10 ** 90


def ratio(value):
    """The Ratio of a fraction or an integer."""
    return Ratio(Fraction(value).numerator, Fraction(value).denominator)


def drawn_ratio(source, far):
    """A Ratio that looks random, with a top of at most this much and a small bottom."""
    return ratio(Fraction(next(source) % (2 * far + 1) - far, next(source) % 12 + 1))


# The longest integers of a Ratio that may be a price or a place, and the first ones beyond them.
NINES = 10 ** 90 - 1
BEYOND = 10 ** 90


def long_ratios(source):
    """Ratios with tops and bottoms of 90 digits, without a common divisor."""
    return [Ratio(sign_ * (NINES - next(source) % 1000), 10 ** 89 + 7 * next(source)) for sign_ in (1, -1)]


# Ratios that are too long, each with the integer that is told.
TOO_LONG = [(Ratio(BEYOND), BEYOND), (Ratio(-BEYOND), -BEYOND), (Ratio(BEYOND, NINES), BEYOND),
            (Ratio(1, BEYOND), BEYOND), (Ratio(-NINES, BEYOND), BEYOND), (Ratio(BEYOND + 1, BEYOND), BEYOND + 1),
            (Ratio(-BEYOND - 1, BEYOND), -BEYOND - 1), (Ratio(3 ** 600), 3 ** 600), (Ratio(1, 3 ** 600), 3 ** 600)]
