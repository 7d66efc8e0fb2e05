"""Point 43: neighbours and walks."""

from itertools import combinations

from everybowl.bowls import Bowl
from everybowl.cuts import cut_counts
from everybowl.errors import Barred, NoPoint, Repeated, WrongCount
from everybowl.exchanges import neighbour_counts, neighbours, walk
from everybowl.floors import Floor
from everybowl.lowered import lowered
from everybowl.pencils import pencil_sets
from everybowl.planerows import plane_row
from everybowl.raised import Raised
from tests.heights import DEEP, HUGE, bars_of, extreme_raised, first_four, many_bowls, many_raised, subsets_of
from tests.helpers import ROUND, SAMPLE, Case


def everything():
    return [*many_raised(), *many_bowls()[::4], *extreme_raised()[::5]]


def joined(raised, size):
    """For each lowered subset of this size its neighbours, told by the pencil sets."""
    subsets = lowered(raised, size)
    sets = {(a, b): pencil_sets(raised, a, b) for a, b in combinations(range(len(raised)), 2)}
    table = {subset: [] for subset in subsets}
    for first, second in combinations(subsets, 2):
        gone = [k for k in first if k not in second]
        come = [k for k in second if k not in first]
        if len(gone) == 1:
            pair = tuple(sorted([gone[0], come[0]]))
            if tuple([k for k in first if k in second]) in sets[pair]:
                table[first].append(second)
                table[second].append(first)
    return {subset: sorted(found) for subset, found in table.items()}


def distances(table, start):
    """How many steps lead from the start to each subset."""
    found = {start: 0}
    queue = [start]
    for subset in queue:
        for other in table[subset]:
            if other not in found:
                found[other] = found[subset] + 1
                queue.append(other)
    return found


class Neighbours(Case):
    def test_every_lowered_subset(self):
        for raised in [some for some in everything() if len(some) < 7] + everything()[9::40]:
            for size in range(len(raised) + 1):
                for at, (subset, wanted) in enumerate(joined(raised, size).items()):
                    if len(raised) < 7 or at % 3 == 0:
                        given = (subset, list(subset), subset[::-1], [*subset[1:], *subset[:1]])[at % 4]
                        self.same(neighbours(raised, given), wanted)

    def test_none_for_the_empty_subset_and_the_whole_set(self):
        for raised in everything():
            self.same(neighbours(raised, []), [])
            self.same(neighbours(raised, list(range(len(raised)))), [])

    def test_known(self):
        deep = Raised(Floor(SAMPLE), DEEP)
        self.same([neighbours(deep, [k]) for k in range(4)],
                  [[(1,), (2,), (3,)], [(0,), (2,), (3,)], [(0,), (1,), (3,)], [(0,), (1,), (2,)]])
        self.same(neighbours(deep, (1, 0)), [(0, 3), (1, 3)])
        self.same(neighbours(deep, (0, 3)), [(0, 1), (0, 2), (1, 3), (2, 3)])
        three = Raised(Floor(SAMPLE[:3]), [5, -2, 9])
        self.same([neighbours(three, [0]), neighbours(three, [2, 1])], [[(1,), (2,)], [(0, 1), (0, 2)]])
        self.new_each_time(neighbours, deep, [0])
        self.new_each_time(neighbours, deep, [])

    def test_barred(self):
        for raised in everything()[::6]:
            bars, n = bars_of(raised), len(raised)
            for subset in subsets_of(n)[::11]:
                four = first_four(n, subset, bars)
                if four is not None:
                    self.refuses(Barred(four), neighbours, raised, subset[::-1])

    def test_wrong_subsets(self):
        raised = Raised(Floor(SAMPLE), [0, 0, 0, 5])
        for wrong in (-1, 4, HUGE, -HUGE):
            self.refuses(NoPoint(wrong), neighbours, raised, [3, wrong])
        self.refuses(Repeated(3), neighbours, raised, [3, 3, 9])
        self.refuses(Repeated(0), neighbours, raised, [0, 1, 2, 3, 0])


class NeighbourCounts(Case):
    def test_pairs_of_every_size(self):
        for raised in [some for some in everything() if len(some) < 8] + everything()[9::20]:
            pairs = [sum(len(found) for found in joined(raised, size).values()) for size in range(len(raised) + 1)]
            self.same([2 * count for count in neighbour_counts(raised)], pairs)

    def test_fact(self):
        for raised in everything():
            n, counts, s = len(raised), neighbour_counts(raised), cut_counts(raised.floor)
            b = [0, 0, *plane_row(raised), 0]
            self.same([2 * count for count in counts],
                      [0, *[3 * (b[k + 1] + b[k]) + s[k] for k in range(1, n)], 0])

    def test_known(self):
        self.same(neighbour_counts(Raised(Floor(SAMPLE), DEEP)), [0, 6, 9, 3, 0])
        self.same(neighbour_counts(Raised(Floor(SAMPLE[:3]), [5, -2, 9])), [0, 3, 3, 0])
        self.new_each_time(neighbour_counts, Raised(Floor(SAMPLE), DEEP))


class Walk(Case):
    def walks(self, raised, table, first, last):
        """Each step leads to a neighbour, and there is no shorter way."""
        got = walk(raised, first, last)
        self.assertIs(got.__class__, list)
        start, goal = tuple(sorted(first)), tuple(sorted(last))
        self.same([got[0], got[-1]], [start, goal])
        for before, after in zip(got, got[1:]):
            self.same(after.__class__, tuple)
            self.assertTrue(after in table[before])
        self.assertEqual(len(got), distances(table, start)[goal] + 1)

    def test_all_pairs_of_few_points(self):
        for raised in [some for some in everything() if len(some) < 6]:
            for size in range(len(raised) + 1):
                table = joined(raised, size)
                for first in table:
                    for last in table:
                        self.walks(raised, table, first, last)

    def test_some_pairs_of_more_points(self):
        longest = 0
        for raised in [some for some in everything() if len(some) > 5][::11]:
            for size in range(1, len(raised)):
                table = joined(raised, size)
                subsets = list(table)
                for first, last in ((subsets[0], subsets[-1]), (subsets[-1][::-1], list(subsets[len(subsets) // 2]))):
                    self.walks(raised, table, first, last)
                    longest = max(longest, len(walk(raised, first, last)))
        self.assertTrue(longest > 4)

    def test_all_lowered_subsets_are_joined(self):
        for raised in everything()[::9]:
            for size in range(len(raised) + 1):
                table = joined(raised, size)
                self.assertEqual(len(distances(table, list(table)[0])), len(table))

    def test_the_same_subset(self):
        for raised in everything()[::5]:
            n = len(raised)
            self.same(walk(raised, [], ()), [()])
            self.same(walk(raised, list(range(n)), tuple(range(n))[::-1]), [tuple(range(n))])
            for size in range(n + 1):
                subset = lowered(raised, size)[-1]
                self.same(walk(raised, list(subset), subset[::-1]), [subset])

    def test_the_same_walk_in_any_order(self):
        for raised in everything()[::9]:
            subsets = lowered(raised, 2)
            wanted = walk(raised, subsets[0], subsets[-1])
            self.same(walk(raised, subsets[0][::-1], list(subsets[-1])[::-1]), wanted)
            self.same(walk(raised, list(subsets[0]), subsets[-1]), wanted)
        raised = Raised(Floor(SAMPLE), DEEP)
        self.new_each_time(walk, raised, [0], [1])
        self.new_each_time(walk, raised, [0], [0])

    def test_errors_in_order(self):
        # The subset (3,) is barred.
        high = Raised(Floor(SAMPLE), [0, 0, 0, 5])
        for wrong in (-1, 4, HUGE, -HUGE):
            self.refuses(NoPoint(wrong), walk, high, [3, wrong], [9])
            self.refuses(NoPoint(wrong), walk, high, [3], [3, wrong])
        self.refuses(Repeated(3), walk, high, [3, 3], [9])
        self.refuses(Repeated(3), walk, high, [3], [3, 3])
        self.refuses(Repeated(0), walk, high, [0, 1, 2, 3, 0], [9])
        self.refuses(WrongCount(2), walk, high, [3], [0, 1])
        self.refuses(WrongCount(0), walk, high, [3], [])
        self.refuses(WrongCount(1), walk, high, [0, 1, 2], [3])
        self.refuses(WrongCount(4), walk, high, (), [0, 1, 2, 3])
        self.refuses(Barred((0, 1, 2, 3)), walk, high, [3], [0])
        self.refuses(Barred((0, 1, 2, 3)), walk, high, [0], [3])
        self.refuses(Barred((0, 1, 2, 3)), walk, high, [3], [3])

    def test_barred_first_and_last(self):
        for raised in [some for some in everything() if len(some) > 5][::5]:
            bars, n = bars_of(raised), len(raised)
            barred = [subset for subset in subsets_of(n) if first_four(n, subset, bars) is not None]
            for first, last in zip(barred, barred[1:]):
                if len(first) == len(last) and first_four(n, first, bars) != first_four(n, last, bars):
                    self.refuses(Barred(first_four(n, first, bars)), walk, raised, first, last)
                    self.refuses(Barred(first_four(n, last, bars)), walk, raised, last, first)
                    good = lowered(raised, len(first))[0]
                    self.refuses(Barred(first_four(n, last, bars)), walk, raised, good, last)
                    break

    def test_round_floors(self):
        bowl = Bowl.circular(Floor(ROUND))
        table = joined(bowl, 5)
        self.walks(bowl, table, [0, 1, 2, 3, 4], [9, 8, 7, 6, 5])

    def test_lists_stay(self):
        raised = Raised(Floor(SAMPLE), DEEP)
        first, last = [3, 0], [2, 1]
        walk(raised, first, last)
        neighbours(raised, first)
        self.same([first, last], [[3, 0], [2, 1]])
