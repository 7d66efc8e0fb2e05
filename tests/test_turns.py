"""Points 12 and 30: bare coordinates."""

from itertools import islice, permutations

from everybowl.errors import OnLine, TooFar
from everybowl.turns import doubled_area, height_sign, ring_sign
from tests.helpers import Case, doubled, scattered

FAR = 10 ** 15
FLAT = [(0, 0), (4, 0), (0, 4), (1, 1)]


def triples(seed, count, far, width):
    source = scattered(seed)
    return [[tuple(value % (2 * far + 1) - far for value in islice(source, width)) for _ in range(4)]
            for _ in range(count)]


def height_over(p, q, r, s):
    """The numerator and the sign of the denominator of the height of s above the plane, by Cramer's rule."""
    base = doubled(p, q, r)
    alpha = (q[2] - p[2]) * (r[1] - p[1]) - (r[2] - p[2]) * (q[1] - p[1])
    beta = (q[0] - p[0]) * (r[2] - p[2]) - (r[0] - p[0]) * (q[2] - p[2])
    return ((s[2] - p[2]) * base - alpha * (s[0] - p[0]) - beta * (s[1] - p[1])) * base


def sign(value):
    return (value > 0) - (value < 0)


class DoubledArea(Case):
    def test_known(self):
        self.same(doubled_area((0, 0), (4, 0), (0, 4)), 16)
        self.same(doubled_area((0, 0), (0, 4), (4, 0)), -16)
        self.same(doubled_area((1, 2), (2, 4), (-3, -6)), 0)
        self.same(doubled_area((5, 5), (5, 5), (9, -3)), 0)

    def test_formula(self):
        for p, q, r, _ in triples(1, 50, 20, 2):
            self.same(doubled_area(p, q, r), doubled(p, q, r))

    def test_ends_of_the_range(self):
        self.same(doubled_area((-FAR, -FAR), (FAR, -FAR), (FAR, FAR)), 4 * FAR * FAR)


class HeightSign(Case):
    def test_known(self):
        p, q, r = (0, 0, 0), (4, 0, 4), (0, 4, 8)
        for order in permutations((p, q, r)):
            self.same([height_sign(*order, (1, 1, z)) for z in (4, 3, 2)], [1, 0, -1])
            self.same([height_sign(*order, (9, 9, z)) for z in (28, 27, 26)], [1, 0, -1])
            self.same([height_sign(*order, known) for known in (p, q, r)], [0, 0, 0])

    def test_against_slopes(self):
        for p, q, r, s in triples(2, 60, 5, 3):
            if doubled(p, q, r) != 0:
                self.same(height_sign(p, q, r, s), sign(height_over(p, q, r, s)))

    def test_ends_of_the_range(self):
        p, q, r = (-FAR, -FAR, -FAR), (FAR, -FAR, FAR), (FAR, FAR, FAR)
        self.same(height_sign(p, q, r, (FAR - 1, 0, FAR)), 1)
        self.same(height_sign(p, q, r, (FAR - 1, 0, FAR - 1)), 0)
        self.same(height_sign(p, q, r, (FAR - 1, 0, FAR - 2)), -1)

    def test_on_a_line(self):
        self.refuses(OnLine((0, 1, 2)), height_sign, (0, 0, 0), (1, 1, 5), (2, 2, 9), (0, 1, 0))
        self.refuses(OnLine((0, 1, 2)), height_sign, (0, 0, 0), (0, 0, 5), (2, 3, 9), (0, 1, 0))
        self.refuses(OnLine((0, 1, 2)), height_sign, (FAR, 1, 0), (FAR, 2, 5), (FAR, 4, 9), (0, 1, 0))


class RingSign(Case):
    def test_known(self):
        for p, q, r in permutations([(0, 0), (4, 0), (0, 4)]):
            self.same(ring_sign(p, q, r, (1, 1)), 1)
            self.same(ring_sign(p, q, r, (4, 4)), 0)
            self.same(ring_sign(p, q, r, (5, 4)), -1)
            self.same(ring_sign(p, q, r, (-1, 2)), -1)
            self.same(ring_sign(p, q, r, p), 0)

    def test_against_distances(self):
        for p, q, r, s in triples(3, 80, 6, 2):
            base = doubled(p, q, r)
            if base == 0:
                continue
            # The centre and the radius, all times twice the base.
            squares = [x * x + y * y for x, y in (p, q, r)]
            ux = squares[0] * (q[1] - r[1]) + squares[1] * (r[1] - p[1]) + squares[2] * (p[1] - q[1])
            uy = squares[0] * (r[0] - q[0]) + squares[1] * (p[0] - r[0]) + squares[2] * (q[0] - p[0])
            near = [(2 * base * x - ux) ** 2 + (2 * base * y - uy) ** 2 for x, y in (p, q, r, s)]
            self.assertEqual([near[1], near[2]], [near[0], near[0]])
            self.same(ring_sign(p, q, r, s), sign(near[0] - near[3]))

    def test_ends_of_the_range(self):
        p, q, r = (-FAR, -FAR), (FAR, -FAR), (FAR, FAR)
        self.same(ring_sign(p, q, r, (-FAR, FAR)), 0)
        self.same(ring_sign(p, q, r, (-FAR, FAR - 1)), 1)
        self.same(ring_sign((-FAR + 1, -FAR), q, (FAR, FAR), (-FAR, FAR)), -1)

    def test_on_a_line(self):
        self.refuses(OnLine((0, 1, 2)), ring_sign, (0, 0), (1, 1), (2, 2), (0, 1))
        self.refuses(OnLine((0, 1, 2)), ring_sign, (3, 4), (1, 1), (3, 4), (0, 1))


class Ranges(Case):
    def refuses_each_coordinate(self, act, count, width):
        """One beyond, and far beyond, at each place, with a worse one behind it, also on a line."""
        for wrong in (FAR + 1, -FAR - 1, 10 ** 5000):
            for at in range(count * width):
                flat = [1] * at + [wrong] + [10 ** 6000] * (count * width - at - 1)
                points = [tuple(flat[k:k + width]) for k in range(0, count * width, width)]
                self.refuses(TooFar(wrong), act, *points)

    def test_from_left_to_right(self):
        self.refuses_each_coordinate(doubled_area, 3, 2)
        self.refuses_each_coordinate(height_sign, 4, 3)
        self.refuses_each_coordinate(ring_sign, 4, 2)

    def test_range_before_line(self):
        self.refuses(TooFar(FAR + 1), height_sign, (0, 0, 0), (1, 1, 1), (2, 2, 2), (0, 0, FAR + 1))
        self.refuses(TooFar(FAR + 1), ring_sign, (0, 0), (1, 1), (2, 2), (0, FAR + 1))

    def test_kinds(self):
        self.assertIs(height_sign((0, 0, 0), (1, 0, 0), (0, 1, 0), (1, 1, 1)).__class__, int)
        self.assertIs(ring_sign(*FLAT).__class__, int)
