"""Point 57: kinds and renamings."""

from itertools import combinations, permutations

from everybowl.changes import mirrored, moved, quartered, scaled, sheared
from everybowl.floors import Floor
from everybowl.kinds import Kind, kind_of, renamings
from everybowl.rims import corners
from tests.helpers import NESTED, ROUND, SAMPLE, Case, all_floors, scattered_points, turn_of


def words_told(floor):
    """The words of all corners, told by the turns around each of them."""
    n, found = len(floor), []
    for first in range(n):
        rest = [k for k in range(n) if k != first]
        starts = [k for k in rest if all(turn_of(floor, first, k, c) == 1 for c in rest if c != k)]
        if starts:
            labelled = [first, *sorted(rest, key=lambda k: sum(turn_of(floor, first, c, k) == 1 for c in rest
                                                               if c != k))]
            assert labelled[1] == starts[0]
            found.append("".join(["+" if turn_of(floor, *three) == 1 else "-"
                                  for three in combinations(labelled, 3)]))
    return found


def renamings_told(first, second):
    """All renamings, tried one by one."""
    triangles = list(combinations(range(len(first)), 3))
    turns = [turn_of(first, *three) for three in triangles]
    return [names for names in permutations(range(len(second)))
            if all(turn_of(second, *[names[k] for k in three]) == turn for three, turn in zip(triangles, turns))]


def small_floors():
    found = [floor for floor in all_floors() if len(floor) < 6]
    found += [Floor(scattered_points(n, n + k, 6)) for n in (4, 5) for k in range(6)]
    return found + [mirrored(floor) for floor in found[::3]]


def reordered(floor, step):
    """The floor with other numbers, and the tuple that tells them."""
    n = len(floor)
    names = [k for k in range(step, n)] + [k for k in range(step)]
    names[0], names[-1] = names[-1], names[0]
    return floor.only([names.index(k) for k in range(n)]), tuple(names)


class KindOf(Case):
    def test_words(self):
        for floor in [*all_floors(), *[mirrored(floor) for floor in all_floors()[::3]]]:
            kind = kind_of(floor)
            self.assertIs(kind.__class__, Kind)
            self.same([kind.word, kind.size], [min(words_told(floor)), len(floor)])

    def test_known(self):
        kind = kind_of(Floor(SAMPLE))
        self.same([kind.word, kind.size], ["+++-", 4])
        kind = kind_of(Floor([(0, 0), (4, 1), (5, 5), (0, 4)]))
        self.same([kind.word, kind.size], ["++++", 4])
        kind = kind_of(Floor([(0, 0), (4, 1), (5, 5)][::-1]))
        self.same([kind.word, kind.size], ["+", 3])
        self.same(kind_of(Floor(ROUND)).word, "+" * 120)

    def test_the_same_turns(self):
        for floor in all_floors():
            kind = kind_of(floor)
            convex = quartered(Floor(ROUND[::-1]))
            self.same(kind == kind_of(quartered(floor)), True)
            self.same(kind == kind_of(reordered(floor, 1)[0]), True)
            self.same(kind == kind_of(convex), kind.word == "+" * 120)
        floor = Floor(NESTED)
        for other in (moved(floor, 5, -7), sheared(floor, -3), scaled(floor, 9)):
            self.same(kind_of(floor) == kind_of(other), True)

    def test_mirrored(self):
        seen = []
        for floor in all_floors():
            same = kind_of(floor) == kind_of(mirrored(floor))
            self.same(same, renamings(floor, mirrored(floor)) != [])
            seen.append(same)
        self.assertTrue(seen.count(True) > 5 and seen.count(False) > 5)

    def test_equal_to(self):
        kind = kind_of(Floor(SAMPLE))
        for other in ("+++-", 4, None, ("+++-", 4), ["+++-", 4], Floor(SAMPLE), kind_of(Floor(ROUND[:4])),
                      kind_of(Floor(ROUND[:3]))):
            self.same([kind == other, other == kind], [False, False])
        self.same(kind == kind_of(Floor(SAMPLE)), True)
        self.same(kind != kind_of(Floor(SAMPLE)), False)


class Renamings(Case):
    def test_all_orders_of_the_numbers(self):
        found = 0
        floors = small_floors()
        for first in floors:
            for second in floors[::3]:
                if len(first) == len(second):
                    wanted = renamings_told(first, second)
                    self.same(renamings(first, second), wanted)
                    found += len(wanted)
        self.assertTrue(found > 100)

    def test_six_points(self):
        floors = [Floor(ROUND[:6]), Floor(NESTED[:6]), *[Floor(scattered_points(6, k, 9)) for k in range(4)]]
        for at, floor in enumerate(floors):
            for other in (floor, reordered(floor, at % 6)[0], floors[at - 1]):
                self.same(renamings(floor, other), renamings_told(floor, other))

    def test_facts(self):
        floors = [*all_floors(), *small_floors()]
        for at, floor in enumerate(floors):
            other, names = reordered(floor, at % len(floor))
            got = renamings(floor, other)
            self.assertIn(names, got)
            self.assertTrue(len(got) <= len(corners(floor)))
            for second in floors[at::40]:
                got = renamings(floor, second)
                self.same(got != [], kind_of(floor) == kind_of(second))
                self.assertTrue(len(got) <= min(len(corners(floor)), len(corners(second))))
                self.same(got, sorted(got))
                for names in got:
                    self.same(sorted(names), list(range(len(floor))))
                    self.assertTrue(all(turn_of(second, *[names[k] for k in three]) == turn_of(floor, *three)
                                        for three in combinations(range(len(floor)), 3)))

    def test_floors_of_different_sizes(self):
        for n in range(3, 10):
            self.same([renamings(Floor(ROUND[:n]), Floor(ROUND[:n + 1])),
                       renamings(Floor(ROUND[:n + 1]), Floor(ROUND[:n]))], [[], []])
            self.same(kind_of(Floor(ROUND[:n])) == kind_of(Floor(ROUND[:n + 1])), False)

    def test_known(self):
        triangle = Floor([(0, 0), (4, 1), (5, 5)])
        self.same(renamings(triangle, triangle), [(0, 1, 2), (1, 2, 0), (2, 0, 1)])
        self.same(renamings(triangle, mirrored(triangle)), [(0, 2, 1), (1, 0, 2), (2, 1, 0)])
        self.same(renamings(Floor(SAMPLE), Floor([SAMPLE[k] for k in (3, 0, 1, 2)])),
                  [(1, 2, 3, 0), (2, 3, 1, 0), (3, 1, 2, 0)])
        self.same(renamings(Floor(SAMPLE), Floor(ROUND[:4])), [])
        self.same(len(renamings(Floor(ROUND), Floor(ROUND))), 10)
        self.new_each_time(renamings, triangle, triangle)
