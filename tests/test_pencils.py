"""Point 34: pencils."""

from fractions import Fraction
from itertools import permutations

from everybowl.bowls import Bowl
from everybowl.errors import NoPoint, Repeated
from everybowl.floors import Floor
from everybowl.pencils import pencil, pencil_sets
from everybowl.raised import Raised
from tests.heights import DEEP, HUGE, extreme_raised, many_bowls, many_raised, places_of
from tests.helpers import ROUND, SAMPLE, Case, doubled


def everything():
    return [*many_raised(), *many_bowls()[::5], *extreme_raised()[::3]]


def meeting(places, a, b, c):
    """How steep the plane through a and b rises to their left when it meets c, in a measure of its own.

    The plane through a and b that rises on the left by t for each unit of doubled area is, at c, as high as
    the line through a and b at the foot of c, and t times the doubled area of a, b and c.
    """
    p, q, r = places[a], places[b], places[c]
    dx, dy = q[0] - p[0], q[1] - p[1]
    along = Fraction((r[0] - p[0]) * dx + (r[1] - p[1]) * dy, dx * dx + dy * dy)
    return (r[2] - p[2] - along * (q[2] - p[2])) / doubled(p, q, r)


class Pencil(Case):
    def test_order_of_the_meetings(self):
        for raised in everything():
            places = places_of(raised)
            for a, b in permutations(range(len(raised)), 2):
                times = {c: meeting(places, a, b, c) for c in range(len(raised)) if c not in (a, b)}
                got = pencil(raised, a, b)
                self.same(got, sorted(times, key=times.get))
                self.same(pencil(raised, b, a), got[::-1])

    def test_known(self):
        # Around the line of 0 and 1: point 3 is 2 high at 1 from the line, point 2 is 16 high at 4 from it.
        raised = Raised(Floor(SAMPLE), [0, 0, 16, 2])
        self.same([pencil(raised, 0, 1), pencil(raised, 1, 0)], [[3, 2], [2, 3]])
        raised = Raised(Floor(SAMPLE), [0, 0, 16, 5])
        self.same([pencil(raised, 0, 1), pencil(raised, 1, 0)], [[2, 3], [3, 2]])
        self.same(pencil(Raised(Floor(SAMPLE[:3]), [1, 2, 3]), 2, 0), [1])
        self.new_each_time(pencil, raised, 0, 1)


class PencilSets(Case):
    def test_below_at_first_and_after_each_meeting(self):
        for raised in everything():
            places = places_of(raised)
            for a, b in permutations(range(len(raised)), 2):
                rest = [c for c in range(len(raised)) if c not in (a, b)]
                left = {c: doubled(places[a], places[b], places[c]) > 0 for c in rest}
                times = {c: meeting(places, a, b, c) for c in rest}
                wanted = [tuple([c for c in rest if not left[c]])]
                for now in sorted(times.values()):
                    wanted.append(tuple([c for c in rest if left[c] == (times[c] <= now)]))
                self.same(pencil_sets(raised, a, b), wanted)
                self.same(pencil_sets(raised, b, a), wanted[::-1])

    def test_between_two_meetings(self):
        for raised in everything()[::3]:
            n = len(raised)
            for a, b in permutations(range(n), 2):
                order, sets = pencil(raised, a, b), pencil_sets(raised, a, b)
                self.same([len(order), len(sets)], [n - 2, n - 1])
                for c, before, after in zip(order, sets, sets[1:]):
                    self.same([d for d in before if d in after], raised.below(a, b, c))

    def test_known(self):
        raised = Raised(Floor(SAMPLE), [0, 0, 16, 2])
        self.same(pencil_sets(raised, 0, 1), [(), (3,), (2, 3)])
        self.same(pencil_sets(raised, 1, 0), [(2, 3), (3,), ()])
        self.same(pencil_sets(Raised(Floor(SAMPLE), DEEP), 0, 3), [(1,), (), (2,)])
        self.same(pencil_sets(Raised(Floor(SAMPLE[:3]), [1, 2, 3]), 2, 0), [(), (1,)])
        self.new_each_time(pencil_sets, raised, 0, 1)


class WrongNumbers(Case):
    def test_member_by_member(self):
        for n in range(3, 11):
            raised = Bowl.circular(Floor(ROUND[:n]))
            for act in (pencil, pencil_sets):
                for wrong in (-1, n, HUGE, -HUGE):
                    self.refuses(NoPoint(wrong), act, raised, wrong, wrong)
                    self.refuses(NoPoint(wrong), act, raised, 0, wrong)
                for number in (0, n - 1):
                    self.refuses(Repeated(number), act, raised, number, number)
