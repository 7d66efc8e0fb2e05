"""Point 11: table rows."""

from itertools import islice
from math import comb

from everybowl.errors import TooFar, WrongCount, WrongRow
from everybowl.tables import bends, gather, spread, tally, unbend
from tests.helpers import Case, scattered

FAR = 10 ** 40


def row_of(size, far):
    return [value % (2 * far + 1) - far for value in islice(scattered(size + far), size)]


ROWS = [[], [5], [-5], [0, 0], [1, 3, 1], row_of(7, 9), row_of(30, 10 ** 5), row_of(62, 10 ** 8), row_of(64, 3)]


class Spread(Case):
    def test_sums(self):
        for row in ROWS:
            places = range(len(row))
            self.same(spread(row), [sum(row[m] * comb(m, s) for m in places) for s in places])
            self.same(spread(tuple(row)), spread(row))
        self.same(spread([1, 10, 100, 1000]), [1111, 3210, 3100, 1000])

    def test_longest(self):
        row = [FAR, -FAR] * 32
        self.same(spread(row), [sum(row[m] * comb(m, s) for m in range(64)) for s in range(64)])


class Tally(Case):
    def test_against_count(self):
        for length in range(12):
            for size in range(20):
                counts = row_of(size, 10)
                for given in (counts, tuple(counts)):
                    self.same(tally(given, length), [counts.count(j) for j in range(length)])

    def test_known(self):
        self.same([tally([], 0), tally([], 2), tally((2, 0, 2, 5, -1), 4)], [[], [0, 0], [1, 0, 2, 0]])


class Gather(Case):
    def test_known(self):
        self.same(gather([1111, 3210, 3100, 1000]), [1, 10, 100, 1000])
        self.same(gather([0, 0, 1]), [1, -2, 1])

    def test_signs(self):
        for row in ROWS:
            wanted = [sum((-1) ** (s - m) * comb(s, m) * row[s] for s in range(m, len(row))) for m in range(len(row))]
            self.same(gather(row), wanted)
            self.same(gather(tuple(row)), wanted)

    def test_there_and_back(self):
        for row in ROWS:
            self.same(gather(spread(row)), row)
            self.same(spread(gather(row)), row)

    def test_longest(self):
        self.same(gather([FAR] * 64)[0], 0)
        self.assertTrue(max(gather([FAR, -FAR] * 32)) > FAR)


class Bends(Case):
    def test_known(self):
        self.same(bends([1, 3, 1]), [1, 1, -4, 1, 1])
        self.same(bends([]), [0, 0])
        self.same(bends([7]), [7, -14, 7])
        self.same(bends([2, 5]), [2, 1, -8, 5])

    def test_second_differences(self):
        for row in ROWS:
            at = dict(enumerate(row))
            wanted = [at.get(s, 0) - 2 * at.get(s - 1, 0) + at.get(s - 2, 0) for s in range(len(row) + 2)]
            self.same(bends(row), wanted)
            self.same(bends(tuple(row)), wanted)

    def test_results_beyond_the_bound(self):
        found = bends([FAR, -FAR] * 32)
        self.same([len(found), found[:3], found[-1]], [66, [FAR, -3 * FAR, 4 * FAR], -FAR])


class Unbend(Case):
    def test_there_and_back(self):
        for row in ROWS[:-1]:
            self.same(unbend(bends(row)), row)
            self.same(unbend(tuple(bends(row))), row)

    def test_results_beyond_the_bound(self):
        self.same(unbend([FAR, 0, -FAR, -FAR, 0, FAR]), [FAR, 2 * FAR, 2 * FAR, FAR])

    def test_no_bends(self):
        for row in ([0, 1], [1, 0], [1, -1], [1, -2, 2], [0, 0, 1], [1, 1, -4, 1, 2], [1, 1, -4, 2, 0], [1] * 64):
            self.refuses(WrongRow("bends"), unbend, row)

    def test_one_wrong_end_is_enough(self):
        # The list would go on with 1, 0 or with 0, 1 where it has to go on with 0, 0.
        self.refuses(WrongRow("bends"), unbend, [1, -2])
        self.refuses(WrongRow("bends"), unbend, [0, 1])
        self.refuses(WrongRow("bends"), unbend, [5, -9, 3, 2])

    def test_two_and_64(self):
        self.same(unbend([0, 0]), [])
        self.same(unbend([0] * 64), [0] * 62)


class Errors(Case):
    def test_counts(self):
        for act in (spread, gather, bends, unbend):
            self.refuses(WrongCount(65), act, [0] * 65)
            self.refuses(WrongCount(66), act, (FAR + 1,) * 66)
            self.same(act([0] * 64)[:2], [0, 0])
        for act in (spread, gather):
            self.same(act([]), [])
        self.refuses(WrongCount(0), unbend, [])
        self.refuses(WrongCount(1), unbend, [FAR + 1])
        self.refuses(WrongCount(1), unbend, (0,))

    def test_ranges(self):
        for act in (spread, gather, bends, unbend):
            for wrong in (FAR + 1, -FAR - 1, 10 ** 5000):
                self.refuses(TooFar(wrong), act, [0, FAR, wrong, wrong + 1])
                self.refuses(TooFar(wrong), act, (wrong, 10 ** 6000))
        for end in (FAR, -FAR):
            self.same(spread([end]), [end])
            self.same(gather([end]), [end])
            self.same(bends([end]), [end, -2 * end, end])
            self.refuses(WrongRow("bends"), unbend, [end, end])

    def test_range_before_bends(self):
        self.refuses(TooFar(FAR + 1), unbend, [1, 0, FAR + 1])

    def test_lists_stay(self):
        for act in (spread, gather, bends, unbend):
            row = [1, 1, -4, 1, 1]
            act(row)
            self.same(row, [1, 1, -4, 1, 1])
            self.new_each_time(act, row)
