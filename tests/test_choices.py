"""Point 10: binomial numbers and subsets."""

from itertools import combinations

from everybowl.choices import choose, subsets
from everybowl.errors import NoSize, TooFar
from tests.helpers import Case


class Choose(Case):
    def test_by_the_triangle_of_sums(self):
        row = [1]
        for n in range(61):
            for k in range(-60, 61):
                self.same(choose(n, k), row[k] if 0 <= k <= n else 0)
            row = [1, *[row[k] + row[k + 1] for k in range(n)], 1]

    def test_known(self):
        self.same([choose(0, 0), choose(10, 3), choose(60, 30)], [1, 120, 118264581564861424])

    def test_out_of_range(self):
        for n in (-1, 61, -10 ** 5000, 10 ** 5000):
            self.refuses(TooFar(n), choose, n, 2)
        for k in (-61, 61, -10 ** 5000, 10 ** 5000):
            self.refuses(TooFar(k), choose, 5, k)
            self.refuses(TooFar(-2), choose, -2, k)


class Subsets(Case):
    def test_every_size(self):
        for n in range(13):
            for size in range(n + 1):
                found = list(subsets(n, size))
                self.same(found, list(combinations(range(n), size)))
                self.same(len(found), choose(n, size))

    def test_empty_tuple(self):
        self.same(list(subsets(0, 0)), [()])
        self.same(list(subsets(12, 0)), [()])

    def test_errors(self):
        for n in (-1, 13, 10 ** 5000):
            for size in (-1, 0, 14):
                self.refuses(TooFar(n), lambda: list(subsets(n, size)))
        for n in range(13):
            for size in (-1, n + 1, -10 ** 5000, 10 ** 5000):
                self.refuses(NoSize(size), lambda: list(subsets(n, size)))
