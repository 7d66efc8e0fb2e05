"""Points 26 and 27: planes that touch from below, and bowls."""

from everybowl.errors import NoPoint, NotTouched
from everybowl.floors import Floor
from everybowl.nets import net_points
from everybowl.raised import Raised
from everybowl.ratios import Ratio
from everybowl.touches import first_high, is_bowl, touching
from tests.heights import (
    DEEP, HUGE, extreme_raised, fraction, is_short, many_bowls, many_raised, pairs_beyond, places_of,
)
from tests.helpers import SAMPLE, Case


def everything():
    return [*many_raised(), *many_bowls()[::3], *extreme_raised()]


def high_pairs(raised):
    return [pair for pair, _ in pairs_beyond(raised, 1)]


class Touching(Case):
    def test_exactly_one_of_two_things(self):
        missed = 0
        for raised in everything():
            pairs = high_pairs(raised)
            for number in range(len(raised)):
                over = [three for three, inner in pairs if inner == number]
                self.same(over == [], number in net_points(raised))
                if over:
                    self.refuses(NotTouched(over[0]), touching, raised, number)
                    missed += 1
                else:
                    self.touches(raised, number)
        self.assertTrue(missed > 50)

    def touches(self, raised, number):
        slopes = touching(raised, number)
        self.same([slopes.__class__, *[slope.__class__ for slope in slopes]], [tuple, Ratio, Ratio])
        for slope in slopes:
            self.same((slope.top, slope.bottom), (fraction(slope).numerator, fraction(slope).denominator))
            self.assertTrue(is_short(slope.top) and is_short(slope.bottom))
        alpha, beta = [fraction(slope) for slope in slopes]
        places = places_of(raised)
        ours = places[number][2] - alpha * places[number][0] - beta * places[number][1]
        self.assertTrue(all(z - alpha * x - beta * y > ours for k, (x, y, z) in enumerate(places) if k != number))

    def test_the_same_slopes_again(self):
        for raised in everything()[::7]:
            again = Raised(Floor(list(raised.floor.points)), list(raised.heights))
            for number in net_points(raised):
                first, second = touching(raised, number), touching(again, number)
                self.assertTrue(first == second and first == touching(raised, number))

    def test_known(self):
        self.refuses(NotTouched((0, 1, 2)), touching, Raised(Floor(SAMPLE), [0, 0, 0, 5]), 3)
        for number in range(3):
            self.touches(Raised(Floor(SAMPLE), [0, 0, 0, 5]), number)
            self.touches(Raised(Floor(SAMPLE[:3]), [0, 0, 0]), number)

    def test_no_point(self):
        for raised in everything()[::9]:
            for wrong in (-1, len(raised), HUGE, -HUGE):
                self.refuses(NoPoint(wrong), touching, raised, wrong)


class FirstHigh(Case):
    def test_first_in_ascending_order(self):
        for raised in everything():
            pairs = high_pairs(raised)
            self.same(first_high(raised), pairs[0] if pairs else None)
            self.same(pairs, sorted(pairs))

    def test_known(self):
        self.same(first_high(Raised(Floor(SAMPLE), DEEP)), None)
        self.same(first_high(Raised(Floor(SAMPLE), [0, 0, 0, 5])), ((0, 1, 2), 3))
        self.same(first_high(Raised(Floor(SAMPLE[:3]), [0, 0, 5])), None)


class IsBowl(Case):
    def test_no_high_pair(self):
        told = [is_bowl(raised) for raised in everything()]
        for raised, answer in zip(everything(), told):
            self.same(answer, high_pairs(raised) == [])
            self.same(answer, net_points(raised) == list(range(len(raised))))
        self.assertTrue({True, False} <= set(told))

    def test_above_every_subset(self):
        for bowl in many_bowls()[::4]:
            for number in range(len(bowl) if len(bowl) > 3 else 0):
                self.assertIs(is_bowl(Raised(bowl.floor, bowl.heights).without(number)), True)
