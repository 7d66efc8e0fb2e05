"""Point 71: judging papers."""

from itertools import combinations, permutations

from everybowl.bowls import Bowl
from everybowl.cuts import is_cut
from everybowl.floors import Floor
from everybowl.judge import accepted, accepts
from everybowl.lowered import is_lowered
from everybowl.papers import (
    bowl_paper, corner_paper, cut_paper, hoop_paper, read_paper, touch_paper, under_paper, write_paper,
)
from everybowl.raised import Raised
from everybowl.ratios import Ratio
from everybowl.rims import corners
from everybowl.touches import is_bowl
from tests.heights import (
    DEEP, extreme_raised, many_bowls, many_raised, places_of, ratio, scattered_heights, slopes, subsets_of,
)
from tests.helpers import ROUND, SAMPLE, Case
from tests.papers import is_true
from tests.test_nearest import SQUARE, first_ring, ringless

LONG = 10 ** 400 - 1
WILD = (Ratio(LONG, LONG - 1), Ratio(-LONG), Ratio(1, LONG))


def everything():
    ringed = [Raised(floor, scattered_heights(floor, k, 900)) for k, floor in enumerate(ringless()[::8])]
    return [*many_raised()[::6], *many_bowls()[::9], *extreme_raised()[::9], *ringed,
            Raised(Floor(SQUARE), [0, 1, 5, 3])]


def made(raised):
    """Papers of all forms that the makers tell."""
    floor, n = raised.floor, len(raised)
    found = [bowl_paper(raised)]
    for number in range(n):
        found += [corner_paper(floor, number), touch_paper(raised, number)]
    for subset in subsets_of(n)[::1 if n < 5 else 23]:
        found += [cut_paper(floor, subset), under_paper(raised, subset)]
        found += [] if first_ring(floor) else [hoop_paper(floor, subset)]
    return found


def spoilt_numbers(numbers, n):
    """Numbers in another order, twice the same, other ones, and no points."""
    found = [numbers[::-1], (*numbers[1:], *numbers[:1]), (*numbers[1:], *numbers[-1:]), (*numbers[:-1], n),
             (-1, *numbers[1:]), (LONG, *numbers[1:]), tuple([(k + 1) % n for k in numbers])]
    return [some for some in found if len(some) == len(numbers)]


def spoilt_subset(subset, n):
    found = [subset[1:], subset[::-1], (*subset, n), (*subset, -LONG), (*subset, *subset[:1]), (0, 0),
             tuple([k for k in range(n) if k not in subset])]
    for number in range(n):
        found.append(tuple([k for k in subset if k != number]) if number in subset else (number, *subset))
    return [some for some in found if len(some) <= 10]


def spoilt_integers(values):
    found = [values[::-1], tuple([-value for value in values]), tuple([2 * value for value in values]), (0, 0, 0),
             tuple([LONG for _ in values]), tuple([-LONG for _ in values])]
    for at in range(3):
        for value in (values[at] + 1, values[at] - 1, 0, LONG, -LONG):
            found.append((*values[:at], value, *values[at + 1:]))
    return found


def spoilt_ratios(values):
    found = [values[::-1], WILD[:len(values)], tuple([-value for value in values])]
    for at, value in enumerate(values):
        for other in (value + 1, value - Ratio(1, 7), Ratio(0), *WILD):
            found.append((*values[:at], other, *values[at + 1:]))
    return found


KINDS = {
    "corner": ("point", "integers"), "within": ("point", "numbers", "integers"), "cut": ("subset", "integers"),
    "crossed": ("subset", "numbers"), "under": ("subset", "ratios"), "barred": ("subset", "numbers"),
    "touched": ("point", "ratios"), "high": ("point", "numbers"), "hoop": ("subset", "ratios"),
    "unhooped": ("subset", "numbers"), "bowl": ("slopes",),
}


def spoilt_parts(kind, part, n):
    if kind == "point":
        return [-1, n, LONG, -LONG, *range(n)]
    if kind == "slopes":
        found = [part[1:], part[:-1], (*part, part[0]), part[::-1], (), (part[0],) * n]
        return found + [(*part[:at], pair, *part[at + 1:]) for at in range(len(part))
                        for pair in spoilt_ratios(part[at])[::2]]
    if kind == "numbers":
        return spoilt_numbers(part, n)
    return {"subset": lambda: spoilt_subset(part, n), "integers": lambda: spoilt_integers(part),
            "ratios": lambda: spoilt_ratios(part)}[kind]()


def spoilt(paper, n):
    """The paper with one part spoilt, in many ways."""
    word, *parts = paper
    return [(word, *parts[:at], part, *parts[at + 1:]) for at, kind in enumerate(KINDS[word])
            for part in spoilt_parts(kind, parts[at], n)]


class Accepts(Case):
    def judged(self, raised, paper):
        """The answer is the one that is told; it is returned."""
        wanted = is_true(raised, paper)
        self.same(accepts(raised, paper), wanted)
        return wanted

    def test_papers_that_are_made(self):
        words = set()
        for raised in [*everything(), *many_raised()[1::8]]:
            for paper in made(raised):
                self.same(accepts(raised, paper), True)
                words.add(paper[0])
        self.assertEqual(words, set(KINDS))

    def test_papers_that_are_read(self):
        for raised in everything()[::4]:
            for paper in made(raised):
                self.same(accepts(raised, read_paper(write_paper(paper))), True)

    def test_spoilt_papers(self):
        answers = {word: [] for word in KINDS}
        for raised in everything():
            for k, paper in enumerate(made(raised)):
                if len(raised) < 5 or k % 7 == 0:
                    for other in spoilt(paper, len(raised)):
                        answers[paper[0]].append(self.judged(raised, other))
        for word, found in answers.items():
            self.assertTrue(found.count(True) > 4 and found.count(False) > 20, word)

    def test_papers_of_other_points(self):
        raised = everything()
        for first, second in zip(raised, raised[1:]):
            for paper in made(second)[::3]:
                self.judged(first, paper)

    def test_every_four(self):
        for raised in [some for some in everything() if len(some) < 6]:
            n = len(raised)
            for four in permutations(range(n), 4):
                for subset in subsets_of(n)[::3]:
                    for word in ("crossed", "barred", "unhooped"):
                        self.judged(raised, (word, subset[::-1], four))

    def test_every_triangle(self):
        for raised in [some for some in everything() if len(some) < 6]:
            for number in range(-1, len(raised) + 1):
                for three in [*permutations(range(len(raised)), 3), (0, 0, 1), (0, 1, 9), (-1, 1, 2)]:
                    self.judged(raised, ("high", number, three))
                    for weights in ((1, 1, 1), (2, 1, 1), (1, 2, 1), (1, 1, 2), (4, 2, 2), (0, 0, 0), (-2, -1, -1)):
                        self.judged(raised, ("within", number, three, weights))

    def test_weights(self):
        raised = Raised(Floor(SAMPLE), DEEP)
        for weights, three, wanted in (((2, 1, 1), (0, 1, 2), True), ((1, 2, 1), (1, 0, 2), True),
                                       ((2, 1, 1), (1, 0, 2), False), ((20, 10, 10), (0, 1, 2), True),
                                       ((2, 1, 0), (0, 1, 2), False), ((-2, -1, -1), (0, 1, 2), False),
                                       ((0, 0, 0), (0, 1, 2), False), ((2 * LONG // 4, LONG // 4, LONG // 4),
                                                                       (0, 1, 2), False)):
            self.same(accepts(raised, ("within", 3, three, weights)), wanted)
        part = LONG // 2
        self.same(accepts(raised, ("within", 3, (0, 1, 2), (2 * part, part, part))), True)

    def test_planes_and_circles_through_points(self):
        """A plane through a raised point, or a circle through a point, shows nothing."""
        for raised in everything()[::2]:
            n, places = len(raised), places_of(raised)
            for three in list(combinations(range(n), 3))[::5]:
                plane = tuple([ratio(part) for part in slopes(places, *three)])
                below = tuple(raised.below(*three))
                for size in range(4):
                    for part in combinations(three, size):
                        self.same(accepts(raised, ("under", (*part, *below), plane)), False)
                self.judged(raised, ("under", below, (plane[0], plane[1], plane[2] - Ratio(1, 10 ** 60))))
                self.same(accepts(raised, ("touched", three[0], plane[:2])), False)
            for number, (x, y) in enumerate(raised.floor.points):
                far = [(px - x) ** 2 + (py - y) ** 2 for px, py in raised.floor.points]
                for square in far:
                    for subset in (tuple([k for k in range(n) if far[k] < square]),
                                   tuple([k for k in range(n) if far[k] <= square])):
                        self.same(accepts(raised, ("hoop", subset, (Ratio(x), Ratio(y), Ratio(square)))), False)
                        middle = Ratio(2 * square + 1, 2)
                        self.judged(raised, ("hoop", subset, (Ratio(x), Ratio(y), middle)))
                self.same(accepts(raised, ("hoop", (), (Ratio(x), Ratio(y), Ratio(-1)))), True)

    def test_lines_through_points(self):
        raised = Raised(Floor(SAMPLE), DEEP)
        self.same(accepted(raised, ("cut", (1,), (1, 0, -2)), ("cut", (1,), (1, 0, -1)), ("cut", (1,), (1, 0, -4)),
                           ("cut", (1, 3), (1, 0, -1)), ("corner", 1, (1, 0, -2)), ("corner", 1, (1, 0, -4))),
                  [True, False, False, False, True, False])
        self.same(accepted(raised, ("cut", (), (0, 0, -1)), ("cut", (3, 1, 0, 2), (0, 0, 1)), ("cut", (), (0, 0, 0)),
                           ("cut", (), (0, 0, 1)), ("cut", (0, 1, 2, 3, 0), (0, 0, 1))),
                  [True, True, False, False, False])

    def test_ratios_of_any_length(self):
        raised = Raised(Floor(SAMPLE), DEEP)
        tiny, huge = Ratio(1, LONG), Ratio(LONG)
        for paper, wanted in ((("under", (), (tiny, -tiny, -huge)), True), (("under", (0, 1, 2, 3), (tiny, tiny, huge)),
                                                                            True),
                              (("under", (0,), (tiny, tiny, tiny)), True), (("under", (0,), (huge, huge, tiny)), False),
                              (("hoop", (0,), (tiny, -tiny, Ratio(1, LONG - 2))), True),
                              (("hoop", (0,), (tiny, tiny, tiny)), True),
                              (("hoop", (0, 1, 2, 3), (huge, huge, huge)), False),
                              (("hoop", (), (huge, -huge, huge)), True), (("touched", 0, (tiny, tiny)), True),
                              (("touched", 0, (huge, tiny)), False), (("touched", 1, (huge, -huge)), True)):
            self.same(accepts(raised, paper), wanted)
            self.assertEqual(is_true(raised, paper), wanted)

    def test_bowl_papers(self):
        for bowl in many_bowls()[::6]:
            word, pairs = bowl_paper(bowl)
            self.same(accepts(bowl, (word, pairs)), True)
            for other in (pairs[:-1], pairs[1:], (*pairs, pairs[-1]), (), (*pairs[1:], pairs[0])):
                self.same(accepts(bowl, (word, other)), False)
            self.same(accepts(-bowl, (word, pairs)), False)

    def test_unhooped_needs_no_four_on_a_circle(self):
        floor = Floor([*SQUARE, (1, 2), (9, 1)])
        raised = Raised(floor, scattered_heights(floor, 4, 99))
        for four in combinations(range(6), 4):
            for subset in subsets_of(6):
                self.same(accepts(raised, ("unhooped", subset, four)), False)
        self.same(accepts(raised, ("hoop", (4,), (Ratio(1), Ratio(2), Ratio(1)))), True)


class ForAndAgainst(Case):
    def test_never_both(self):
        for raised in [some for some in everything() if len(some) < 8]:
            n, floor = len(raised), raised.floor
            bowl = None if first_ring(floor) else Bowl.circular(floor)
            fours = list(combinations(range(n), 4))
            for subset in subsets_of(n)[::1 if n < 6 else 5]:
                for four in fours:
                    if accepts(raised, ("crossed", subset, four)):
                        self.assertFalse(is_cut(floor, subset))
                    if accepts(raised, ("barred", subset, four)):
                        self.assertFalse(is_lowered(raised, subset))
                    if accepts(raised, ("unhooped", subset, four)):
                        self.assertFalse(is_lowered(bowl, subset))
            for number in range(n):
                for three in combinations(range(n), 3):
                    if accepts(raised, ("high", number, three)):
                        self.assertFalse(is_bowl(raised))
                        self.same(touch_paper(raised, number)[0], "high")
                        self.assertNotIn(number, corners(floor))

    def test_both_kinds_of_papers_of_a_pool(self):
        """Of all papers about one thing, only those of one word are accepted."""
        sides = {"corner": "within", "cut": "crossed", "under": "barred", "touched": "high", "hoop": "unhooped"}
        for raised in everything()[::3]:
            pool = [other for paper in made(raised)[::4] for other in [paper, *spoilt(paper, len(raised))]]
            true = {}
            for paper in pool:
                if paper[0] != "bowl" and accepts(raised, paper):
                    thing = paper[1] if isinstance(paper[1], int) else tuple(sorted(paper[1]))
                    true.setdefault(thing, set()).add(paper[0])
            for words in true.values():
                self.assertFalse(any({word, other} <= words for word, other in sides.items()))


class Accepted(Case):
    def test_none_one_and_several(self):
        raised = Raised(Floor(SAMPLE), DEEP)
        good, bad = ("high", 3, (0, 1, 2)), ("within", 3, (0, 2, 1), (2, 1, 1))
        self.same(accepted(raised), [])
        self.same(accepted(raised, bad), [True])
        self.same(accepted(raised, good), [False])
        self.same(accepted(raised, bad, good, bad), [True, False, True])
        self.same(accepted(Raised(Floor(SAMPLE), [0, 0, 0, 5]), good, bad), [True, True])
        papers = made(raised)
        self.same(accepted(raised, *papers), [True] * len(papers))

    def test_bowls_are_taken_too(self):
        bowl = Bowl.circular(Floor(ROUND[:6]))
        papers = [other for paper in made(bowl) for other in spoilt(paper, 6)[::5]]
        self.same(accepted(bowl, *papers), accepted(Raised(bowl.floor, bowl.heights), *papers))
