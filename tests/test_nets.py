"""Point 25: the lower net and the upper net."""

from everybowl.bowls import Bowl
from everybowl.errors import OnLine, OnPlane, TooFar, WrongCount
from everybowl.floors import Floor
from everybowl.nets import body_corners, lower_net, net_change, net_points, upper_net
from everybowl.raised import Raised
from everybowl.rims import corners, rim_area
from tests.heights import (
    DEEP, HIGH, HUGE, belows, extreme_raised, lower, many_bowls, many_raised, places_of, rise, scattered_heights,
)
from tests.helpers import FAR, NESTED, ROUND, SAMPLE, Case, doubled


def everything():
    return [*many_raised(), *many_bowls()[::3], *extreme_raised()[::4]]


def upper(raised):
    return [three for three, below in belows(raised).items() if len(below) == len(raised) - 3]


def numbers_in(triangles):
    return sorted({k for three in triangles for k in three})


class Nets(Case):
    def test_against_a_count(self):
        for raised in everything():
            self.same(lower_net(raised), lower(raised))
            self.same(upper_net(raised), upper(raised))

    def test_ascending(self):
        for raised in many_raised():
            for net in (lower_net(raised), upper_net(raised)):
                self.same(net, sorted(net))
                self.assertTrue(all(a < b < c for a, b, c in net))

    def test_triangles_fill_the_rim(self):
        for raised in everything():
            for net in (lower_net(raised), upper_net(raised)):
                areas = [abs(doubled(*[raised.floor[k] for k in three])) for three in net]
                self.same(sum(areas), rim_area(raised.floor))

    def test_how_many_triangles(self):
        for raised in everything():
            h = len(corners(raised.floor))
            self.same(len(lower_net(raised)), 2 * len(net_points(raised)) - 2 - h)
            self.same(len(upper_net(raised)), 2 * len(net_points(-raised)) - 2 - h)

    def test_negative_heights_exchange_them(self):
        for raised in everything():
            self.same(lower_net(-raised), upper_net(raised))
            self.same(upper_net(-raised), lower_net(raised))

    def test_known(self):
        deep = Raised(Floor(SAMPLE), DEEP)
        self.same(lower_net(deep), [(0, 1, 3), (0, 2, 3), (1, 2, 3)])
        self.same(upper_net(deep), [(0, 1, 2)])
        three = Raised(Floor(SAMPLE[:3]), [5, -2, 9])
        self.same([lower_net(three), upper_net(three)], [[(0, 1, 2)], [(0, 1, 2)]])
        for act in (lower_net, upper_net):
            self.new_each_time(act, deep)


class NetPoints(Case):
    def test_numbers_that_occur(self):
        for raised in everything():
            self.same(net_points(raised), numbers_in(lower(raised)))
            self.assertTrue(set(corners(raised.floor)) <= set(net_points(raised)))

    def test_all_points_of_a_bowl(self):
        for bowl in many_bowls():
            self.same(net_points(bowl), list(range(len(bowl))))

    def test_known(self):
        self.same(net_points(Raised(Floor(SAMPLE), DEEP)), [0, 1, 2, 3])
        self.same(net_points(Raised(Floor(SAMPLE), [0, 0, 0, 5])), [0, 1, 2])
        self.new_each_time(net_points, Raised(Floor(SAMPLE), DEEP))


class BodyCorners(Case):
    def test_of_both_nets(self):
        fewer = 0
        for raised in everything():
            self.same(body_corners(raised), numbers_in([*lower(raised), *upper(raised)]))
            fewer += len(body_corners(raised)) < len(raised)
        self.assertTrue(fewer > 5)

    def test_known(self):
        for heights in (DEEP, [0, 0, 0, 5]):
            self.same(body_corners(Raised(Floor(SAMPLE), heights)), [0, 1, 2, 3])
        within = Raised(Floor([*SAMPLE, (2, 1)]), [0, 0, 0, 100, 1])
        self.same([body_corners(within), net_points(within)], [[0, 1, 2, 3], [0, 1, 2]])
        self.new_each_time(body_corners, within)


class NetChange(Case):
    def changes(self, raised, point, height):
        """The change is the one of the nets, and the fact of point 25 holds; returns it."""
        n = len(raised)
        more = Raised(Floor([*raised.floor.points, point]), [*raised.heights, height])
        before, after = lower(raised), lower(more)
        got = net_change(raised, point, height)
        self.same(got, ([three for three in before if three not in after],
                        [three for three in after if three not in before]))
        if not [three for three in after if n in three]:
            self.same(got, ([], []))
        else:
            self.same(got[0], [three for three in before if rise(places_of(more), *three, n) < 0])
            self.assertTrue(got[1] != [] and all(n in three for three in got[1]))
        return got

    def test_last_point_of_every_kind(self):
        quiet = 0
        for raised in everything():
            if len(raised) > 3:
                part = raised.only(range(len(raised) - 1)) if len(raised) % 2 else raised.without(len(raised) - 1)
                quiet += self.changes(part, raised.floor.points[-1], raised.heights[-1]) == ([], [])
        self.assertTrue(quiet > 5)

    def test_above_and_below(self):
        raised = Raised(Floor(SAMPLE), DEEP)
        self.same(self.changes(raised, (1, 2), 10 ** 6), ([], []))
        self.same(self.changes(raised, (1, 2), -HIGH),
                  ([(0, 1, 3), (0, 2, 3), (1, 2, 3)], [(0, 1, 4), (0, 2, 4), (1, 2, 4)]))
        self.same(self.changes(raised, (1, 2), 8), ([(1, 2, 3)], [(1, 2, 4), (1, 3, 4), (2, 3, 4)]))
        # Outside of the rim, where nothing leaves the net.
        self.same(self.changes(raised, (9, 8), 10 ** 6), ([], [(1, 2, 4)]))

    def test_bowls_too(self):
        bowl = Bowl.circular(Floor(SAMPLE))
        self.same(self.changes(bowl, (1, 2), 10 ** 6), ([], []))
        self.same(net_change(bowl, (1, 2), -9), net_change(Raised(bowl.floor, bowl.heights), (1, 2), -9))
        for some in many_bowls()[::5]:
            if len(some) < 10 and (77, 78) not in some.floor:
                try:
                    some.floor.plus((77, 78))
                except OnLine:
                    continue
                self.changes(some, (77, 78), HIGH - 1)
                self.changes(some, (77, 78), 3 - HIGH)

    def test_errors_of_plus_in_order(self):
        full = Raised(Floor(NESTED), scattered_heights(Floor(NESTED), 6, HIGH))
        for raised in (full, Bowl.circular(Floor(ROUND)), Raised(Floor(SAMPLE), DEEP), Bowl.circular(Floor(SAMPLE))):
            for wrong in (FAR + 1, -FAR - 1, HUGE):
                self.refuses(TooFar(wrong), net_change, raised, (wrong, HUGE + 1), HUGE + 2)
                self.refuses(TooFar(wrong), net_change, raised, (0, wrong), HUGE + 2)
            for wrong in (HIGH + 1, -HIGH - 1, HUGE):
                self.refuses(TooFar(wrong), net_change, raised, (0, 0), wrong)
        for raised in (full, Bowl.circular(Floor(ROUND))):
            self.refuses(WrongCount(11), net_change, raised, raised.floor[0], 5)
        for raised in (Raised(Floor(SAMPLE), DEEP), Bowl(Floor(SAMPLE), DEEP)):
            self.refuses(OnLine((0, 1, 4)), net_change, raised, (2, 0), 8)
            self.refuses(OnLine((0, 3, 4)), net_change, raised, (5, 5), 8)
            self.refuses(OnPlane((0, 1, 2, 4)), net_change, raised, (1, 2), 12)
            self.refuses(OnPlane((0, 1, 3, 4)), net_change, raised, (1, 2), 0)

    def test_new_lists_and_the_same_object(self):
        raised = Bowl(Floor(SAMPLE), DEEP)
        for part in (0, 1):
            first = net_change(raised, (1, 2), -9)
            first[part].append("more")
            self.same(net_change(raised, (1, 2), -9), self.changes(raised, (1, 2), -9))
        self.same((raised.floor.points, raised.heights), (tuple(SAMPLE), tuple(DEEP)))
        self.assertIs(raised.__class__, Bowl)
