"""What the tests share: exact comparison, expected errors, and floors of all sizes."""

import unittest
from itertools import combinations

from everybowl.errors import BowlError
from everybowl.floors import Floor

SAMPLE = [(0, 0), (4, 0), (0, 4), (1, 1)]
FAR = 10 ** 6

# Points of growing floors; the first k of each list are a floor for every k from 3 on.
ROUND = [(k, k * k) for k in range(10)]
NESTED = [(0, 0), (90, 1), (41, 83), (67, 1), (15, 18), (50, 35), (29, 27), (33, 36), (11, 18), (50, 67)]
WIDE = [(-FAR, -FAR), (FAR, -FAR), (FAR, FAR), (-FAR, FAR), (1, 2), (-7, 5),
        (FAR - 1, 3), (4, 1 - FAR), (2 - FAR, 11), (-9, FAR - 3)]


class Case(unittest.TestCase):
    def same(self, got, wanted):
        """Equal, and of the same kinds throughout: a list is no tuple, and True is no 1."""
        self.assertTrue(got == wanted and kinds(got) == kinds(wanted), "another value")

    def refuses(self, wanted, act, *arguments):
        """The call raises an error of this very class with these fields."""
        try:
            act(*arguments)
        except BowlError as caught:
            self.assertIs(caught.__class__, wanted.__class__)
            self.assertTrue(vars(caught) == vars(wanted), "other fields")
            self.assertTrue(kinds(list(vars(caught).values())) == kinds(list(vars(wanted).values())))
        else:
            self.fail("nothing was raised")

    def new_each_time(self, act, *arguments):
        """What is returned may be changed without an effect on the next answer."""
        first = act(*arguments)
        self.assertIs(first.__class__, list)
        wanted = list(first)
        first.append("more")
        self.same(act(*arguments), wanted)


def kinds(thing):
    """The kind of a thing, and of all that it contains."""
    if isinstance(thing, (list, tuple)):
        return (thing.__class__, [kinds(part) for part in thing])
    return thing.__class__


def scattered(seed):
    """Numbers that look random and are always the same, without end."""
    value = seed
    while True:
        value = (value * 6364136223846793005 + 1442695040888963407) & (2 ** 64 - 1)
        yield value >> 33


def doubled(p, q, r):
    return (q[0] - p[0]) * (r[1] - p[1]) - (q[1] - p[1]) * (r[0] - p[0])


def scattered_points(n, seed, far):
    """n points, no three on a line."""
    source = scattered(seed)
    points = []
    while len(points) < n:
        new = (next(source) % (2 * far + 1) - far, next(source) % (2 * far + 1) - far)
        if new not in points and all(doubled(p, q, new) != 0 for p, q in combinations(points, 2)):
            points.append(new)
    return points


def all_floors():
    """Floors of all sizes: all, some and three points as corners, near and far ones."""
    lists = [points[:n] for points in (ROUND, NESTED, WIDE) for n in range(3, 11)]
    lists += [scattered_points(n, 10 * n + k, far) for n in range(3, 11) for k, far in enumerate((9, 50, FAR))]
    lists.append(SAMPLE)
    return [Floor(points) for points in lists]


def turn_of(floor, a, b, c):
    """The turn of three points, told without the package."""
    area = doubled(floor.points[a], floor.points[b], floor.points[c])
    return (area > 0) - (area < 0)


def lies_within(floor, triangle, number):
    """Whether the point is on the same side of all three sides of the triangle."""
    a, b, c = triangle
    return len({turn_of(floor, a, b, number), turn_of(floor, b, c, number), turn_of(floor, c, a, number)}) == 1

