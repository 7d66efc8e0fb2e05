"""Points 44 and 45: costs, cheapest subsets, and how they change while the prices move."""

from fractions import Fraction
from itertools import combinations
from math import gcd

from everybowl.bowls import Bowl
from everybowl.errors import Barred, NoPoint, NoSize, Repeated, Tied, TooFar
from everybowl.exchanges import neighbours
from everybowl.floors import Floor
from everybowl.lowered import is_lowered, lowered
from everybowl.prices import cheapest, costs, price_steps, prices_for
from everybowl.raised import Raised
from everybowl.ratios import Ratio
from tests.heights import (
    BEYOND, DEEP, HUGE, NINES, TOO_LONG, bars_of, drawn_ratio, extreme_raised, first_four, fraction, is_short,
    long_ratios, many_bowls, many_raised, places_of, ratio, slopes, subsets_of,
)
from tests.helpers import SAMPLE, Case, scattered

ZERO = Ratio(0)


def everything():
    return [*many_raised()[::3], *many_bowls()[::7], *extreme_raised()[::6]]


def costs_told(raised, alpha, beta):
    return [z - fraction(alpha) * x - fraction(beta) * y for x, y, z in places_of(raised)]


def tied_told(amounts, size):
    """All points with the amount at the border if there is a tie, otherwise none."""
    ranked = sorted(amounts)
    if size in (0, len(amounts)) or ranked[size - 1] != ranked[size]:
        return []
    return [k for k, amount in enumerate(amounts) if amount == ranked[size]]


def cheapest_told(amounts, size):
    """The subset, or the pair of a tie."""
    tied = tied_told(amounts, size)
    if tied:
        return Tied(tuple(tied[:2]))
    return tuple(sorted(sorted(range(len(amounts)), key=amounts.__getitem__)[:size]))


def drawn_prices(raised, seed):
    """Prices of many lengths, and some at which two or three points cost the same."""
    source, places = scattered(seed), places_of(raised)
    high = max(abs(z) for z in raised.heights) + 1
    found = [(drawn_ratio(source, far), drawn_ratio(source, far)) for far in (3, high)]
    found += [tuple(long_ratios(source)), (ZERO, ZERO)]
    triangles = list(combinations(range(len(raised)), 3))
    for at in range(3):
        a, b, c = triangles[next(source) % len(triangles)]
        alpha, beta, _ = slopes(places, a, b, c)
        found.append((ratio(alpha), ratio(beta)))
        # At prices on the same line in the plane of the prices, a and b alone cost the same.
        dx, dy = places[b][0] - places[a][0], places[b][1] - places[a][1]
        found.append((ratio(alpha + Fraction(dy, at + 7)), ratio(beta - Fraction(dx, at + 7))))
    return found


class Costs(Case):
    def test_costs(self):
        for k, raised in enumerate(everything()):
            for alpha, beta in drawn_prices(raised, k):
                got = costs(raised, alpha, beta)
                self.same([got.__class__, *[cost.__class__ for cost in got]], [list, *[Ratio] * len(raised)])
                self.same([fraction(cost) for cost in got], costs_told(raised, alpha, beta))
                self.assertTrue(all(gcd(cost.top, cost.bottom) == 1 and cost.bottom > 0 for cost in got))

    def test_known(self):
        raised = Raised(Floor(SAMPLE), DEEP)
        self.same([cost.text() for cost in costs(raised, Ratio(3, 2), Ratio(-1))], ["0", "10", "20", "3/2"])
        self.new_each_time(costs, raised, ZERO, ZERO)

    def test_too_far(self):
        raised = Raised(Floor(SAMPLE), DEEP)
        for wrong, value in TOO_LONG:
            self.refuses(TooFar(value), costs, raised, wrong, Ratio(-BEYOND * 5))
            self.refuses(TooFar(value), costs, raised, ZERO, wrong)
            for size in (1, -1, 5):
                self.refuses(TooFar(value), cheapest, raised, wrong, Ratio(-BEYOND * 5), size)
                self.refuses(TooFar(value), cheapest, raised, Ratio(-NINES, NINES - 1), wrong, size)
        for top, bottom in ((NINES, 1), (-NINES, NINES - 1), (1, NINES)):
            wanted = [Fraction(z) - Fraction(top, bottom) * (x - y) for x, y, z in places_of(raised)]
            self.same([fraction(cost) for cost in costs(raised, Ratio(top, bottom), Ratio(-top, bottom))], wanted)


class Cheapest(Case):
    def answers(self, raised, alpha, beta, size):
        wanted = cheapest_told(costs_told(raised, alpha, beta), size)
        if isinstance(wanted, Tied):
            self.refuses(wanted, cheapest, raised, alpha, beta, size)
        else:
            self.same(cheapest(raised, alpha, beta, size), wanted)
            self.assertTrue(is_lowered(raised, wanted))
        return isinstance(wanted, Tied)

    def test_every_size(self):
        ties = 0
        for k, raised in enumerate(everything()):
            for alpha, beta in drawn_prices(raised, k):
                for size in range(len(raised) + 1):
                    ties += self.answers(raised, alpha, beta, size)
        self.assertTrue(ties > 100)

    def test_known_ties(self):
        # At the prices 0 the costs are the heights.
        floor = Floor([(0, 0), (9, 1), (4, 7), (3, 2), (1, 8)])
        raised = Raised(floor, [5, 2, 5, -1, 2])
        self.same([cheapest(raised, ZERO, ZERO, size) for size in (0, 1, 3, 5)],
                  [(), (3,), (1, 3, 4), (0, 1, 2, 3, 4)])
        self.refuses(Tied((1, 4)), cheapest, raised, ZERO, ZERO, 2)
        self.refuses(Tied((0, 2)), cheapest, raised, ZERO, ZERO, 4)
        three = Raised(floor, [7, 2, 2, -1, 2])
        self.refuses(Tied((1, 2)), cheapest, three, ZERO, ZERO, 2)
        self.refuses(Tied((1, 2)), cheapest, three, ZERO, ZERO, 3)
        self.same([cheapest(three, ZERO, ZERO, size) for size in (1, 4)], [(3,), (1, 2, 3, 4)])
        flat = Raised(Floor(SAMPLE[:3]), [4, 4, 4])
        self.same([cheapest(flat, ZERO, ZERO, 0), cheapest(flat, ZERO, ZERO, 3)], [(), (0, 1, 2)])
        self.refuses(Tied((0, 1)), cheapest, flat, ZERO, ZERO, 1)
        self.refuses(Tied((0, 1)), cheapest, flat, ZERO, ZERO, 2)

    def test_sizes(self):
        for raised in everything()[::4]:
            n = len(raised)
            for wrong in (-1, n + 1, HUGE, -HUGE):
                self.refuses(NoSize(wrong), cheapest, raised, ZERO, ZERO, wrong)
            # The size is looked at before the tie.
        flat = Raised(Floor(SAMPLE[:3]), [4, 4, 4])
        self.refuses(NoSize(4), cheapest, flat, ZERO, ZERO, 4)


class PricesFor(Case):
    def test_every_lowered_subset(self):
        for raised in everything()[::2]:
            for size in range(len(raised) + 1):
                for at, subset in enumerate(lowered(raised, size)[::1 if len(raised) < 7 else 3]):
                    given = (subset, list(subset)[::-1], [*subset[1:], *subset[:1]])[at % 3]
                    got = prices_for(raised, given)
                    self.same([part.__class__ for part in (got, *got)], [tuple, Ratio, Ratio])
                    alpha, beta = got
                    self.assertTrue(all(is_short(part) for r in got for part in (r.top, r.bottom)))
                    self.same(cheapest(raised, alpha, beta, size), subset)
                    if at % 3:
                        self.same([(r.top, r.bottom) for r in prices_for(raised, sorted(subset))],
                                  [(r.top, r.bottom) for r in got])

    def test_ends_of_the_ranges(self):
        for raised in extreme_raised():
            for size in range(1, len(raised)):
                for subset in lowered(raised, size)[::4]:
                    alpha, beta = prices_for(raised, subset)
                    self.assertTrue(all(is_short(part) for r in (alpha, beta) for part in (r.top, r.bottom)))
                    self.same(cheapest(raised, alpha, beta, size), subset)

    def test_refused(self):
        for raised in everything()[::5]:
            bars, n = bars_of(raised), len(raised)
            for subset in subsets_of(n)[::7]:
                four = first_four(n, subset, bars)
                if four is not None:
                    self.refuses(Barred(four), prices_for, raised, subset[::-1])
        raised = Raised(Floor(SAMPLE), [0, 0, 0, 5])
        for wrong in (-1, 4, HUGE, -HUGE):
            self.refuses(NoPoint(wrong), prices_for, raised, [3, wrong, 3])
        self.refuses(Repeated(3), prices_for, raised, [3, 3, 9])
        self.refuses(Repeated(0), prices_for, raised, [0, 1, 2, 3, 0])
        self.refuses(Barred((0, 1, 2, 3)), prices_for, raised, (3,))


def steps_told(raised, start, goal, size):
    """All (time, gone, come), told by the cheapest subsets between the meetings, or the error of point 45."""
    first, last = costs_told(raised, *start), costs_told(raised, *goal)
    for amounts in (first, last):
        if tied_told(amounts, size):
            return cheapest_told(amounts, size)
    times = {(first[a] - first[b]) / (first[a] - first[b] - last[a] + last[b])
             for a, b in combinations(range(len(first)), 2) if (first[a] - first[b]) * (last[a] - last[b]) < 0}
    for time in sorted(times):
        tied = tied_told(amounts_told(first, last, time), size)
        if len(tied) > 2:
            return Tied(tuple(tied[:2]))
    moments = [Fraction(0), *sorted(times), Fraction(1)]
    sets = [cheapest_told(amounts_told(first, last, (before + after) / 2), size)
            for before, after in zip(moments, moments[1:])]
    found = []
    for time, before, after in zip(sorted(times), sets, sets[1:]):
        if before != after:
            (gone,), (come,) = set(before) - set(after), set(after) - set(before)
            found.append((time, gone, come))
    return found


def amounts_told(first, last, time):
    return [before + time * (after - before) for before, after in zip(first, last)]


def ways(raised, seed):
    """Pairs of prices: at will, through prices at which three points cost the same, and along a tie of two."""
    source, places, prices = scattered(seed), places_of(raised), drawn_prices(raised, seed)
    found = [(prices[0], prices[1]), (prices[1], prices[0]), (prices[2], prices[3]), (prices[0], prices[0]),
             (prices[0], prices[4]), (prices[5], prices[1]), (prices[2], prices[2][::-1])]
    triangles = list(combinations(range(len(raised)), 3))
    for at in range(4):
        a, b, c = triangles[next(source) % len(triangles)]
        alpha, beta, _ = slopes(places, a, b, c)
        steps = [next(source) % 2001 - 1000, next(source) % 2001 - 1000]
        if at == 3:
            steps = [places[b][1] - places[a][1], places[a][0] - places[b][0]]
        part = Fraction(at + 1, 3)
        found.append(((ratio(alpha - steps[0]), ratio(beta - steps[1])),
                      (ratio(alpha + part * steps[0]), ratio(beta + part * steps[1]))))
    return found


class PriceSteps(Case):
    def answers(self, raised, start, goal, size):
        """The steps are those that are told; they are counted, or the error is."""
        wanted = steps_told(raised, start, goal, size)
        if isinstance(wanted, Tied):
            self.refuses(wanted, lambda: list(price_steps(raised, start, goal, size)))
            return "tied"
        got = list(price_steps(raised, start, goal, size))
        self.same([step.__class__ for step in got], [tuple] * len(got))
        self.same([step[0].__class__ for step in got], [Ratio] * len(got))
        self.same([(fraction(time), gone, come) for time, gone, come in got], wanted)
        for time, _, _ in got:
            self.assertTrue(0 < time.top < time.bottom < 10 ** 400 and gcd(time.top, time.bottom) == 1)
        self.leads(raised, start, goal, size, got)
        return len(got)

    def leads(self, raised, start, goal, size, steps):
        """From the cheapest subset of the start, over neighbours, to that of the goal; no pair twice."""
        subset = cheapest(raised, *start, size)
        for _, gone, come in steps:
            after = tuple(sorted([k for k in subset if k != gone] + [come]))
            self.assertTrue(gone in subset and come not in subset)
            if len(raised) < 6:
                self.assertIn(after, neighbours(raised, subset))
            subset = after
        self.same(subset, cheapest(raised, *goal, size))
        pairs = [tuple(sorted(step[1:])) for step in steps]
        self.assertEqual(len(set(pairs)), len(pairs))

    def test_every_size(self):
        counts = []
        for k, raised in enumerate(everything()[::2]):
            for start, goal in ways(raised, k):
                for size in range(len(raised) + 1):
                    counts.append(self.answers(raised, start, goal, size))
        self.assertTrue(counts.count("tied") > 100 and max([0, *[c for c in counts if c != "tied"]]) > 5)

    def test_known(self):
        # The costs are the heights at first, and 8 * x less at the end.
        raised = Raised(Floor([(0, 0), (1, 5), (2, -1), (3, 7)]), [0, 1, 4, 10])
        way = ((ZERO, ZERO), (Ratio(8), ZERO))
        told = [[(time.text(), gone, come) for time, gone, come in price_steps(raised, *way, size)]
                for size in range(5)]
        self.same(told, [[], [("1/8", 0, 1), ("3/8", 1, 2), ("3/4", 2, 3)], [("1/4", 0, 2), ("9/16", 1, 3)],
                         [("5/12", 0, 3)], []])

    def test_several_changes_at_one_time(self):
        # Two pairs meet at 1/2, each in its own place: 0 and 1 at the border of one size, 2 and 3 at another one.
        raised = Raised(Floor([(0, 0), (2, 1), (0, 5), (4, 8)]), [0, 1, 10, 12])
        way = ((ZERO, ZERO), (Ratio(1), ZERO))
        told = [[(time.text(), gone, come) for time, gone, come in price_steps(raised, *way, size)]
                for size in range(5)]
        self.same(told, [[], [("1/2", 0, 1)], [], [("1/2", 2, 3)], []])

    def test_three_at_one_time(self):
        # At 1/2 the points 0, 1 and 2 cost 0, and 3 costs more.
        raised = Raised(Floor([(0, 0), (2, 1), (4, 7), (1, 3)]), [0, 1, 2, 30])
        start, goal = (ZERO, ZERO), (Ratio(1), ZERO)
        for size in (1, 2):
            self.refuses(Tied((0, 1)), lambda: list(price_steps(raised, start, goal, size)))
        self.same([list(price_steps(raised, start, goal, size)) for size in (0, 3, 4)], [[], [], []])

    def test_start_and_goal_equal(self):
        raised = Raised(Floor(SAMPLE), [0, 1, 2, 9])
        for size in range(5):
            self.same(list(price_steps(raised, (ZERO, ZERO), (ZERO, ZERO), size)), [])

    def test_long_prices(self):
        source = scattered(5)
        for raised in [*extreme_raised()[::7], *many_bowls()[::11]]:
            first, last = long_ratios(source), long_ratios(source)
            for start, goal in (((first[0], last[1]), (last[0], first[1])), ((first[1], last[0]), (first[0], last[1])),
                                ((first[1], first[0]), (ratio(Fraction(1, NINES)), ratio(Fraction(-2, NINES))))):
                for size in range(len(raised) + 1):
                    self.answers(raised, start, goal, size)

    def test_errors_in_order(self):
        flat = Raised(Floor([(0, 0), (2, 1), (4, 7), (1, 3)]), [0, 0, 1, 30])
        good, far = Ratio(1, 3), Ratio(-5 * BEYOND)
        for wrong, value in TOO_LONG:
            for way in (((wrong, far), (far, far)), ((good, wrong), (far, far)), ((good, good), (wrong, far)),
                        ((good, good), (good, wrong))):
                self.refuses(TooFar(value), lambda: list(price_steps(flat, *way, -1)))
        tied, other = (ZERO, ZERO), (Ratio(1), Ratio(-1, 4))
        for wrong in (-1, 5, HUGE, -HUGE):
            self.refuses(NoSize(wrong), lambda: list(price_steps(flat, tied, tied, wrong)))
        # At (1, -1/4) point 2 costs 1 - 4 + 7/4, point 1 -2 + 1/4, and at (1/4, 0) the points 0 and 2 cost the same.
        self.refuses(Tied((0, 1)), lambda: list(price_steps(flat, tied, (Ratio(1, 4), ZERO), 1)))
        self.refuses(Tied((0, 2)), lambda: list(price_steps(flat, (Ratio(1, 4), ZERO), tied, 2)))
        self.refuses(Tied((0, 1)), lambda: list(price_steps(flat, other, tied, 1)))
        self.refuses(Tied((0, 1)), lambda: list(price_steps(flat, tied, other, 1)))
        # A tie at the goal comes before one of three points on the way.
        three = Raised(Floor([(0, 0), (2, 1), (4, 7), (1, 3)]), [0, 1, 2, -1])
        goal = (Ratio(3), Ratio(-2))
        self.same([cost.text() for cost in costs(three, *goal)], ["0", "-3", "4", "2"])
        self.refuses(Tied((0, 3)), lambda: list(price_steps(three, (ZERO, ZERO), (Ratio(-1), ZERO), 1)))
        for size in (0, 4):
            self.same(list(price_steps(flat, tied, tied, size)), [])

    def test_nothing_is_yielded_before_an_error(self):
        # The points 0 and 3 change places before the three others meet.
        raised = Raised(Floor([(0, 0), (2, 1), (4, 7), (100, 3)]), [0, 1, 2, 12])
        found = []

        def act():
            for step in price_steps(raised, (ZERO, ZERO), (Ratio(1), ZERO), 2):
                found.append(step)

        self.refuses(Tied((0, 1)), act)
        self.same(found, [])
        self.assertTrue(len(list(price_steps(raised, (ZERO, ZERO), (Ratio(1, 3), ZERO), 2))) > 0)

    def test_bowls_are_taken_too(self):
        bowl = Bowl.circular(Floor(SAMPLE[:3]))
        plain = Raised(bowl.floor, bowl.heights)
        way = ((ZERO, ZERO), (Ratio(9), Ratio(1)))
        for act in (lambda some: [(time.text(), gone, come) for time, gone, come in price_steps(some, *way, 1)],
                    lambda some: [cost.text() for cost in costs(some, *way[1])]):
            self.same(act(bowl), act(plain))
