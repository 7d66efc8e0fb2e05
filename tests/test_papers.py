"""Points 68 to 70: papers and their texts."""

from everybowl.bowls import Bowl
from everybowl.errors import NoPoint, OnPlane, Repeated, WrongLine
from everybowl.floors import Floor
from everybowl.papers import (
    bowl_paper, corner_paper, cut_paper, hoop_paper, read_paper, touch_paper, under_paper, write_paper,
)
from everybowl.raised import Raised
from everybowl.ratios import Ratio
from tests.heights import (
    DEEP, HUGE, bars_of, crossings_of, extreme_raised, first_four, is_short, many_bowls, many_raised, pairs_beyond,
    subsets_of,
)
from tests.helpers import ROUND, SAMPLE, Case, all_floors, lies_within
from tests.papers import is_true
from tests.test_nearest import EDGE, SQUARE, first_ring, ringless

NINES = 10 ** 400 - 1


def everything():
    return [*many_raised()[::4], *many_bowls()[::7], *extreme_raised()[::8]]


def numbers_in(thing):
    """All integers of a paper behind its word, those of its Ratios too."""
    if isinstance(thing, Ratio):
        return [thing.top, thing.bottom]
    return [thing] if isinstance(thing, int) else [number for part in thing for number in numbers_in(part)]


class Makers(Case):
    def holds(self, raised, paper):
        """The paper is true, of the kinds that are named, and its integers are short."""
        self.assertTrue(is_true(raised, paper))
        self.assertTrue(all(is_short(number) for number in numbers_in(paper[1:])))
        self.assertTrue(all(part.__class__ in (int, tuple) for part in paper[1:]) and paper.__class__ is tuple)

    def test_corner_paper(self):
        words = set()
        for floor in [*all_floors(), Floor(EDGE)]:
            raised, n = many_like(floor), len(floor)
            for number in range(n):
                got = corner_paper(floor, number)
                self.holds(raised, got)
                around = [three for three in triples(n) if number not in three and lies_within(floor, three, number)]
                self.same(got[:3:2] if around else got[0], ("within", around[0]) if around else "corner")
                self.same(got[1], number)
                words.add(got[0])
        self.assertEqual(words, {"corner", "within"})
        self.same(corner_paper(Floor(SAMPLE), 3), ("within", 3, (0, 1, 2), (2, 1, 1)))

    def test_subset_papers(self):
        """Cut and crossed papers, and under and barred ones, for subsets in any order."""
        words = {}
        for raised in everything():
            n, crossings, bars = len(raised), crossings_of(raised.floor), bars_of(raised)
            for at, subset in enumerate(subsets_of(n)[::1 if n < 6 else 13]):
                given = (subset, list(subset)[::-1], [*subset[1:], *subset[:1]])[at % 3]
                for got, fours, names in ((cut_paper(raised.floor, given), crossings, ("cut", "crossed")),
                                          (under_paper(raised, given), bars, ("under", "barred"))):
                    four = first_four(n, subset, fours)
                    self.same(got[:2], (names[four is not None], subset))
                    self.holds(raised, got)
                    if four is not None:
                        self.same(got, (names[1], subset, four))
                    words[got[0]] = words.get(got[0], 0) + 1
        self.assertTrue(len(words) == 4 and min(words.values()) > 50)

    def test_touch_paper(self):
        words = set()
        for raised in everything():
            highs = [pair for pair, _ in pairs_beyond(raised, 1)]
            for number in range(len(raised)):
                got = touch_paper(raised, number)
                self.holds(raised, got)
                triangles = sorted([three for three, inner in highs if inner == number])
                self.same(got[:2], ("high" if triangles else "touched", number))
                if triangles:
                    self.same(got, ("high", number, triangles[0]))
                words.add(got[0])
        self.assertEqual(words, {"high", "touched"})

    def test_bowl_paper(self):
        words = set()
        for raised in everything():
            highs = sorted([pair for pair, _ in pairs_beyond(raised, 1)])
            got = bowl_paper(raised)
            self.holds(raised, got)
            if highs:
                self.same(got, ("high", highs[0][1], highs[0][0]))
            else:
                self.same([got[0], len(got), len(got[1])], ["bowl", 2, len(raised)])
            words.add(got[0])
        self.assertEqual(words, {"high", "bowl"})

    def test_hoop_paper(self):
        words = set()
        for floor in ringless()[::4]:
            bowl = Bowl.circular(floor)
            bars, n = bars_of(bowl), len(floor)
            for at, subset in enumerate(subsets_of(n)[::1 if n < 6 else 17]):
                got = hoop_paper(floor, (list(subset)[::-1], subset)[at % 2])
                four = first_four(n, subset, bars)
                self.same(got[:2], ("hoop" if four is None else "unhooped", subset))
                if four is not None:
                    self.same(got, ("unhooped", subset, four))
                self.holds(bowl, got)
                words.add(got[0])
        self.assertEqual(words, {"hoop", "unhooped"})

    def test_errors(self):
        floor, raised = Floor(SQUARE), Raised(Floor(SQUARE), [0, 1, 5, 3])
        for wrong in (-1, 4, HUGE, -HUGE):
            for act, some in ((corner_paper, floor), (touch_paper, raised)):
                self.refuses(NoPoint(wrong), act, some, wrong)
            for act, some in ((cut_paper, floor), (under_paper, raised), (hoop_paper, floor)):
                self.refuses(NoPoint(wrong), act, some, [2, wrong, 2])
        for act, some in ((cut_paper, floor), (under_paper, raised), (hoop_paper, floor)):
            self.refuses(Repeated(2), act, some, [2, 2, 9])
            self.refuses(Repeated(0), act, some, [0, 1, 2, 3, 0])
        for subset in ([], [1], [0, 2], [0, 1, 2, 3]):
            self.refuses(OnPlane((0, 1, 2, 3)), hoop_paper, floor, subset)
        for floor in all_floors():
            if first_ring(floor):
                self.refuses(OnPlane(first_ring(floor)), hoop_paper, floor, [])

    def test_lists_stay(self):
        given = [3, 0, 1]
        for paper in (cut_paper(Floor(SAMPLE), given), under_paper(Raised(Floor(SAMPLE), DEEP), given),
                      hoop_paper(Floor(SAMPLE), given)):
            self.same(paper[1], (0, 1, 3))
        self.same(given, [3, 0, 1])


def triples(n):
    return [subset for subset in subsets_of(n) if len(subset) == 3]


def many_like(floor):
    """Raised points over this floor."""
    return next((raised for raised in many_raised() if raised.floor == floor), None) or Raised(
        floor, [x * x + 2 * y * y + x * y + k ** 5 for k, (x, y) in enumerate(floor.points)])


LINES = [
    ("corner 3 1 -2 30", ("corner", 3, (1, -2, 30))),
    ("within 3 0,1,2 2 1 1", ("within", 3, (0, 1, 2), (2, 1, 1))),
    ("within 0 0,1,9 -2 0 1", ("within", 0, (0, 1, 9), (-2, 0, 1))),
    ("cut - 0 0 -1", ("cut", (), (0, 0, -1))),
    ("cut 0,1,2,3,4,5,6,7,8,9 0 0 1", ("cut", tuple(range(10)), (0, 0, 1))),
    ("crossed 0,2 0,1,2,3", ("crossed", (0, 2), (0, 1, 2, 3))),
    ("crossed - 6,7,8,9", ("crossed", (), (6, 7, 8, 9))),
    ("under 5 1/2 -3 0", ("under", (5,), (Ratio(1, 2), Ratio(-3), Ratio(0)))),
    ("under - 1 2 3", ("under", (), (Ratio(1), Ratio(2), Ratio(3)))),
    ("barred 1,3 1,2,3,4", ("barred", (1, 3), (1, 2, 3, 4))),
    ("touched 9 -1/7 22", ("touched", 9, (Ratio(-1, 7), Ratio(22)))),
    ("high 3 0,1,2", ("high", 3, (0, 1, 2))),
    ("bowl 0 1 2/3 4 -5 6", ("bowl", ((Ratio(0), Ratio(1)), (Ratio(2, 3), Ratio(4)), (Ratio(-5), Ratio(6))))),
    ("hoop 0,9 1/2 1/3 25", ("hoop", (0, 9), (Ratio(1, 2), Ratio(1, 3), Ratio(25)))),
    ("hoop - 0 0 -1", ("hoop", (), (Ratio(0), Ratio(0), Ratio(-1)))),
    ("unhooped 1,2 0,1,2,3", ("unhooped", (1, 2), (0, 1, 2, 3))),
]


def shown(thing):
    """A paper with its Ratios as tuples of two integers behind a word, so that kinds can be compared."""
    if isinstance(thing, Ratio):
        return ("ratio", thing.top, thing.bottom)
    return tuple([shown(part) for part in thing]) if isinstance(thing, tuple) else thing


class WritePaper(Case):
    def test_word_for_word(self):
        for line, paper in LINES:
            self.same(write_paper(paper), line)

    def test_as_it_stands(self):
        self.same(write_paper(("cut", (3, 1, 1, -7, 99), (0, 0, -NINES))), f"cut 3,1,1,-7,99 0 0 -{'9' * 400}")
        self.same(write_paper(("corner", -NINES, (NINES, 0, 1))), f"corner -{'9' * 400} {'9' * 400} 0 1")
        self.same(write_paper(("high", 12, (5, 5, NINES))), f"high 12 5,5,{'9' * 400}")
        self.same(write_paper(("barred", (), (4, 3, 2, -1))), "barred - 4,3,2,-1")
        self.same(write_paper(("hoop", (2,), (Ratio(NINES, 7), Ratio(1, NINES), Ratio(-6, 4)))),
                  f"hoop 2 {NINES}/7 1/{NINES} -3/2")

    def test_bowls_of_all_sizes(self):
        for n in range(3, 11):
            pairs = tuple([(Ratio(k, 7), Ratio(-k)) for k in range(n)])
            text = " ".join(["bowl", *[price.text() for pair in pairs for price in pair]])
            self.same(write_paper(("bowl", pairs)), text)
            self.same(shown(read_paper(text)), shown(("bowl", pairs)))


class ReadPaper(Case):
    def test_forms(self):
        for line, paper in LINES:
            got = read_paper(line)
            self.same(shown(got), shown(paper))
            self.assertIs(got.__class__, tuple)

    def test_there_and_back(self):
        for raised in everything()[::2]:
            floor, n = raised.floor, len(raised)
            papers = [bowl_paper(raised), *[corner_paper(floor, k) for k in range(n)],
                      *[touch_paper(raised, k) for k in range(n)]]
            for subset in subsets_of(n)[::19]:
                papers += [cut_paper(floor, subset), under_paper(raised, subset)]
                papers += [] if first_ring(floor) else [hoop_paper(floor, subset)]
            for paper in papers:
                self.same(shown(read_paper(write_paper(paper))), shown(paper))

    def test_ratios_not_in_lowest_terms_and_long_integers(self):
        self.same(shown(read_paper("touched 1 6/8 -10/5")), shown(("touched", 1, (Ratio(3, 4), Ratio(-2)))))
        self.same(read_paper(f"corner 0 {NINES} -{NINES} 0"), ("corner", 0, (NINES, -NINES, 0)))
        self.same(shown(read_paper(f"touched 0 {NINES} -1/{NINES}")),
                  shown(("touched", 0, (Ratio(NINES), Ratio(-1, NINES)))))
        for line in (f"corner 0 1{NINES} 0 0", f"within 0 1,2,3 1 1 -1{NINES}", f"touched 0 1{NINES} 0",
                     f"touched 0 1 1/1{NINES}"):
            self.refuses(WrongLine(1), read_paper, line)

    def test_every_word_spoilt(self):
        for line, paper in LINES:
            words = line.split(" ")
            for at in range(len(words)):
                for spoilt in self.spoilt_words(words[at]):
                    self.refuses(WrongLine(1), read_paper, " ".join([*words[:at], spoilt, *words[at + 1:]]))
                # One word too few, twice the same, and an empty one.
                if line[:4] != "bowl" or len(words) < 8:
                    self.refuses(WrongLine(1), read_paper, " ".join([*words[:at], *words[at + 1:]]))
                    self.refuses(WrongLine(1), read_paper, " ".join([*words[:at + 1], *words[at:]]))
                self.refuses(WrongLine(1), read_paper, " ".join([*words[:at], "", *words[at:]]))
            for spoilt in (f" {line}", f"{line} ", f"{line}\n", f"\n{line}", f"{line}\n{line}", f"{line} 1",
                           line.upper()):
                self.refuses(WrongLine(1), read_paper, spoilt)

    def spoilt_words(self, word):
        if word[0].islower():
            return [word + "s", word[:-1], word.title(), "", "-", "0"]
        return [f"+{word}", f"{word}x", f"{word} ", f" {word}", f"0{word}", f"--{word}", f"{word},", f",{word}",
                f"{word}/", f"{word}.0", f"{word}/0", f"{word}/-1", "x", "-0", "1_0"]

    def test_numbers_of_points(self):
        for line in ("corner 10 1 2 3", "corner -1 1 2 3", "corner - 1 2 3", "corner 0,1 1 2 3", "corner 00 1 2 3",
                     "corner 1/1 1 2 3", "high 3 0,1", "high 3 0,1,2,4", "high 3 0,2,1", "high 3 0,0,1", "high 3 1",
                     "high 3 -", "high 3 0,1,10", "high 3 0,1,-2", "high 3,4 0,1,2", "high - 0,1,2",
                     "crossed 0,1 0,1,2", "crossed 0,1 0,1,2,3,4", "crossed 0,1 0,1,3,2", "crossed 0,1 0,1,1,2",
                     "crossed 1,0 0,1,2,3", "crossed 0,0 0,1,2,3", "crossed 0,10 0,1,2,3", "crossed 0,,1 0,1,2,3",
                     "crossed , 0,1,2,3", "crossed --1 0,1,2,3", "crossed -1 0,1,2,3", "crossed 0,- 0,1,2,3",
                     "crossed - -", "unhooped 1 3,2,1,0", "barred 1 0,1,2", "barred 1 0,1,2,03",
                     "cut 0,1,2,3,4,5,6,7,8,9,9 0 0 1", "cut 01 1 1 1", "cut 0,01 1 1 1", "cut 1;2 1 1 1",
                     "within 3 0,1,2 2 1", "within 3 0,1,2 2 1 1 1", "within 3 0,1,2 1/2 1 1", "cut 1 1/2 1 1",
                     "corner 1 1 1 2/1", "within 3 2,1,0 1 1 2"):
            self.refuses(WrongLine(1), read_paper, line)

    def test_other_texts(self):
        for text in ("", " ", "\n", "paper", "bowl", "bowl ", "bowl 1 2 3 4", "bowl 1 2 3 4 5", "bowl 1 2 3 4 5 6 7",
                     "bowl " + " ".join(["1"] * 22), "bowl " + " ".join(["1"] * 21), "bowl " + " ".join(["1"] * 19),
                     "bowl 1,2 3,4 5,6", "bowl 1 2 3 4 5 x", "bowl - - - - - -", "corner", "floor", "0", "-"):
            self.refuses(WrongLine(1), read_paper, text)
        for pairs in range(11):
            text = " ".join(["bowl", *["1"] * 2 * pairs])
            if pairs < 3:
                self.refuses(WrongLine(1), read_paper, text)
            else:
                self.same(len(read_paper(text)[1]), pairs)

    def test_what_is_not_looked_at(self):
        self.same(read_paper("within 3 0,1,3 0 -1 7"), ("within", 3, (0, 1, 3), (0, -1, 7)))
        self.same(read_paper("high 0 0,1,2"), ("high", 0, (0, 1, 2)))
        self.same(read_paper("corner 9 0 0 0"), ("corner", 9, (0, 0, 0)))

    def test_round_floor(self):
        # All subsets of a row of the round floor are there and back.
        floor = Floor(ROUND[:5])
        for subset in subsets_of(5):
            paper = cut_paper(floor, subset)
            self.same(read_paper(write_paper(paper)), paper)
