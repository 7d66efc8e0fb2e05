"""Points 38 and 39: fours that bar or cross a subset."""

from itertools import combinations, permutations

from everybowl.errors import NoPoint, Repeated
from everybowl.floors import Floor
from everybowl.fours import split
from everybowl.patterns import barred_four, barred_part, crossed_four
from everybowl.raised import Raised
from tests.heights import (
    DEEP, HUGE, barred_told, bars_of, crossings_of, extreme_raised, first_four, many_bowls, many_raised, parts_told,
    places_of, rise, subsets_of,
)
from tests.helpers import SAMPLE, Case, all_floors, lies_within

SQUARE = [(0, 0), (1, 0), (0, 1), (1, 1)]


def everything():
    return [*many_raised(), *many_bowls()[::4], *extreme_raised()[::3]]


class BarredPart(Case):
    def test_the_higher_part(self):
        for raised in everything():
            for four in combinations(range(len(raised)), 4):
                got = barred_part(raised, *four)
                self.same(got, barred_told(raised, four))
                self.assertTrue(got in split(raised.floor, *four))
                self.same(sorted(parts_told(raised.floor, four)), sorted(split(raised.floor, *four)))

    def test_in_every_order(self):
        for raised in everything()[::5]:
            for four in list(combinations(range(len(raised)), 4))[::5]:
                for order in permutations(four):
                    self.same(barred_part(raised, *order), barred_told(raised, four))

    def test_inner_points(self):
        for raised in everything()[::3]:
            for four in combinations(range(len(raised)), 4):
                for inner in four:
                    rest = tuple([k for k in four if k != inner])
                    if lies_within(raised.floor, rest, inner):
                        above = rise(places_of(raised), *rest, inner) > 0
                        self.same(barred_part(raised, *four), (inner,) if above else rest)

    def test_known(self):
        deep, high = Raised(Floor(SAMPLE), DEEP), Raised(Floor(SAMPLE), [0, 0, 0, 5])
        self.same([barred_part(deep, 0, 1, 2, 3), barred_part(high, 0, 1, 2, 3)], [(0, 1, 2), (3,)])
        self.same([barred_part(deep, 3, 2, 0, 1), barred_part(high, 3, 2, 0, 1)], [(0, 1, 2), (3,)])
        self.same(barred_part(Raised(Floor(SQUARE), [0, 0, 0, 1]), 0, 1, 2, 3), (0, 3))
        self.same(barred_part(Raised(Floor(SQUARE), [0, 0, 0, -1]), 0, 1, 2, 3), (1, 2))
        # The four points (1, 1), (0, 0), (4, 0), (0, 4), so that the inner point has the lowest number.
        floor = Floor([SAMPLE[3], *SAMPLE[:3]])
        self.same(barred_part(Raised(floor, [5, 0, 0, 0]), 0, 1, 2, 3), (0,))
        self.same(barred_part(Raised(floor, [-5, 0, 0, 0]), 0, 1, 2, 3), (1, 2, 3))

    def test_wrong_numbers(self):
        raised = Raised(Floor(SAMPLE), DEEP)
        for wrong in (-1, 4, HUGE, -HUGE):
            self.refuses(NoPoint(wrong), barred_part, raised, wrong, wrong, 9, 9)
            self.refuses(NoPoint(wrong), barred_part, raised, 0, wrong, 0, 0)
            self.refuses(NoPoint(wrong), barred_part, raised, 0, 1, wrong, 0)
            self.refuses(NoPoint(wrong), barred_part, raised, 0, 1, 2, wrong)
        self.refuses(Repeated(2), barred_part, raised, 2, 2, 9, 9)
        self.refuses(Repeated(2), barred_part, raised, 2, 0, 2, -1)
        for number in (0, 1, 2):
            self.refuses(Repeated(number), barred_part, raised, 0, 1, 2, number)
        self.refuses(NoPoint(3), barred_part, Raised(Floor(SAMPLE[:3]), [0, 0, 0]), 0, 1, 2, 3)


class BarredFour(Case):
    def test_all_subsets(self):
        for raised in [some for some in everything() if len(some) < 7]:
            bars, n = bars_of(raised), len(raised)
            for subset in subsets_of(n):
                self.same(barred_four(raised, subset), first_four(n, subset, bars))

    def test_some_subsets_of_many_points(self):
        for raised in [some for some in everything() if len(some) > 6][::3]:
            bars, n = bars_of(raised), len(raised)
            for subset in subsets_of(n)[::19]:
                wanted = first_four(n, subset, bars)
                self.same(barred_four(raised, list(subset)), wanted)
                self.same(barred_four(raised, subset[::-1]), wanted)

    def test_empty_and_whole(self):
        for raised in everything():
            self.same(barred_four(raised, []), None)
            self.same(barred_four(raised, range_list(raised)), None)

    def test_known(self):
        high = Raised(Floor(SAMPLE), [0, 0, 0, 5])
        self.same([barred_four(high, [3]), barred_four(high, (0, 1, 2))], [(0, 1, 2, 3), None])
        deep = Raised(Floor(SAMPLE), DEEP)
        self.same([barred_four(deep, [3]), barred_four(deep, [2, 0, 1])], [None, (0, 1, 2, 3)])


class CrossedFour(Case):
    def test_all_subsets(self):
        for floor in [some for some in all_floors() if len(some) < 7]:
            bars, n = crossings_of(floor), len(floor)
            for subset in subsets_of(n):
                self.same(crossed_four(floor, subset), first_four(n, subset, bars))

    def test_some_subsets_of_many_points(self):
        for floor in [some for some in all_floors() if len(some) > 6]:
            bars, n = crossings_of(floor), len(floor)
            for subset in subsets_of(n)[::19]:
                wanted = first_four(n, subset, bars)
                self.same(crossed_four(floor, list(subset)), wanted)
                self.same(crossed_four(floor, subset[::-1]), wanted)

    def test_empty_and_whole(self):
        for floor in all_floors():
            self.same(crossed_four(floor, ()), None)
            self.same(crossed_four(floor, range_list(floor)), None)

    def test_known(self):
        for subset in ([3], [0, 1, 2], (2, 1, 0)):
            self.same(crossed_four(Floor(SAMPLE), subset), (0, 1, 2, 3))
        for subset in ([0], [0, 1], [1, 3], [3, 2, 0]):
            self.same(crossed_four(Floor(SAMPLE), subset), None)
        self.same([crossed_four(Floor(SQUARE), [0, 3]), crossed_four(Floor(SQUARE), [2, 1])], [(0, 1, 2, 3)] * 2)


class WrongSubsets(Case):
    def test_member_by_member(self):
        raised = Raised(Floor(SAMPLE), DEEP)
        for act, thing in ((barred_four, raised), (crossed_four, raised.floor)):
            for wrong in (-1, 4, HUGE, -HUGE):
                self.refuses(NoPoint(wrong), act, thing, [wrong])
                self.refuses(NoPoint(wrong), act, thing, (0, 1, wrong, 0))
                self.refuses(NoPoint(wrong), act, thing, [wrong, wrong])
            self.refuses(Repeated(1), act, thing, [0, 1, 1, 9])
            self.refuses(Repeated(0), act, thing, (0, 1, 2, 3, 0))
            self.refuses(NoPoint(4), act, thing, [0, 1, 2, 3, 4, 0])
            self.refuses(Repeated(3), act, thing, [3] * 1000)

    def test_lists_stay(self):
        raised = Raised(Floor(SAMPLE), DEEP)
        subset = [2, 0, 1]
        barred_four(raised, subset)
        crossed_four(raised.floor, subset)
        self.same(subset, [2, 0, 1])


def range_list(thing):
    return list(range(len(thing)))[::-1]
