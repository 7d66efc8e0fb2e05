"""Points 9 and 22: texts of floors."""

from everybowl.bowls import Bowl
from everybowl.errors import OnLine, OnPlane, TooFar, WrongCount, WrongLine
from everybowl.floors import Floor
from everybowl.floortexts import read_floor, read_raised, write_floor, write_raised
from everybowl.raised import Raised
from tests.heights import DEEP, HIGH, extreme_raised, many_bowls, many_raised
from tests.helpers import FAR, SAMPLE, WIDE, Case, all_floors

FLOOR_TEXT = "floor\n0 0\n4 0\n0 4\n1 1"
RAISED_TEXT = "raised\n0 0 0\n4 0 16\n0 4 16\n1 1 2"
WRONG_WORDS = ["+1", "-0", "01", "00", "-01", "1.0", "a", "-", "--1", "1-", "1_0", "0x1", "1/2", "9" * 17,
               "-" + "9" * 17, "1" + "0" * 16, "0" * 16, "- 1"]


class Write(Case):
    def test_floor_word_for_word(self):
        self.same(write_floor(Floor(SAMPLE)), FLOOR_TEXT)
        self.same(write_floor(Floor([(-FAR, FAR), (0, -7), (1, 0)])), "floor\n-1000000 1000000\n0 -7\n1 0")

    def test_raised_word_for_word(self):
        self.same(write_raised(Raised(Floor(SAMPLE), DEEP)), RAISED_TEXT)
        self.same(write_raised(Bowl(Floor(SAMPLE), DEEP)), RAISED_TEXT)
        self.same(write_raised(Raised(Floor(SAMPLE[:3]), [HIGH, -HIGH, 0])),
                  "raised\n0 0 1000000000000000\n4 0 -1000000000000000\n0 4 0")


class ReadBack(Case):
    def test_floors(self):
        for floor in all_floors():
            got = read_floor(write_floor(floor))
            self.assertIs(got.__class__, Floor)
            self.same(got.points, floor.points)

    def test_raised(self):
        for raised in [*many_raised(), *many_bowls(), *extreme_raised()]:
            got = read_raised(write_raised(raised))
            self.assertIs(got.__class__, Raised)
            self.same((got.floor.points, got.heights), (raised.floor.points, raised.heights))


class WrongLines(Case):
    def refused_at(self, line, text):
        """Both functions refuse the text, each with its own head and with the right number of words."""
        self.refuses(WrongLine(line), read_floor, text)
        rows = text.split("\n")
        rows = [row.replace("floor", "raised") if k == 0 else f"{row} 7" for k, row in enumerate(rows)]
        self.refuses(WrongLine(line), read_raised, "\n".join(rows))

    def test_head(self):
        for head in ("", " ", "floors", "Floor", "floo", " floor", "floor ", "floor floor", "floor 0 0", "0 0"):
            self.refused_at(1, "\n".join([head, "0 0", "x", "y"]))
            self.refuses(WrongLine(1), read_floor, head)
        self.refuses(WrongLine(1), read_floor, RAISED_TEXT)
        self.refuses(WrongLine(1), read_raised, FLOOR_TEXT)
        self.refuses(WrongLine(1), read_raised, "")
        self.refuses(WrongLine(1), read_floor, "\n" + FLOOR_TEXT)

    def test_words_at_each_place(self):
        for at in range(1, 5):
            for place in (0, 1):
                for word in WRONG_WORDS:
                    lines = FLOOR_TEXT.split("\n")
                    words = lines[at].split(" ")
                    words[place] = word
                    lines[at] = " ".join(words)
                    self.refuses(WrongLine(at + 1), read_floor, "\n".join(lines))
                    self.refuses(WrongLine(at + 1), read_floor, "\n".join([*lines, "", "x"]))

    def test_words_of_raised_at_each_place(self):
        for at in range(1, 5):
            for place in (0, 1, 2):
                for word in WRONG_WORDS:
                    lines = RAISED_TEXT.split("\n")
                    words = lines[at].split(" ")
                    words[place] = word
                    lines[at] = " ".join(words)
                    self.refuses(WrongLine(at + 1), read_raised, "\n".join(lines))

    def test_spaces_and_empty_lines(self):
        for at in range(1, 5):
            for change in (lambda line: f" {line}", lambda line: f"{line} ", lambda line: line.replace(" ", "  "),
                           lambda line: "", lambda line: " ", lambda line: line.replace(" ", "\n"),
                           lambda line: line.replace(" ", ""), lambda line: f"{line} 5 5"):
                for text, read in ((FLOOR_TEXT, read_floor), (RAISED_TEXT, read_raised)):
                    lines = text.split("\n")
                    lines[at] = change(lines[at])
                    self.refuses(WrongLine(at + 1), read, "\n".join(lines))

    def test_newline_behind(self):
        self.refuses(WrongLine(6), read_floor, FLOOR_TEXT + "\n")
        self.refuses(WrongLine(6), read_raised, RAISED_TEXT + "\n")
        self.refuses(WrongLine(2), read_floor, "floor\n")
        self.refuses(WrongLine(7), read_floor, FLOOR_TEXT + "\n7 9\n")

    def test_a_word_too_few_or_too_many(self):
        self.refuses(WrongLine(2), read_floor, RAISED_TEXT.replace("raised", "floor"))
        self.refuses(WrongLine(2), read_raised, FLOOR_TEXT.replace("floor", "raised"))
        self.refuses(WrongLine(4), read_floor, "floor\n0 0\n4 0\n0\n1 1")
        self.refuses(WrongLine(5), read_raised, RAISED_TEXT + " 2")

    def test_before_errors_of_the_objects(self):
        self.refuses(WrongLine(3), read_floor, "floor\n0 9999999\n-0 1")
        self.refuses(WrongLine(6), read_floor, "floor\n0 0\n1 1\n2 2\n3 3\nx")
        self.refuses(WrongLine(5), read_raised, "raised\n0 0 0\n4 0 0\n0 4 0\n1 1 00")


class ThenTheObject(Case):
    def test_floor(self):
        self.refuses(WrongCount(0), read_floor, "floor")
        self.refuses(WrongCount(2), read_floor, "floor\n0 0\n9999999 9")
        self.refuses(WrongCount(11), read_floor, "floor" + "\n0 0" * 11)
        self.refuses(WrongCount(500), read_floor, "floor" + "\n0 0" * 500)
        for word in ("1000001", "-1000001", "9" * 16, "-" + "9" * 16):
            self.refuses(TooFar(int(word)), read_floor, f"floor\n0 0\n0 {word}\n7654321 5")
        self.refuses(OnLine((0, 1, 2)), read_floor, "floor\n0 0\n1 1\n2 2\n5 5")

    def test_raised(self):
        self.refuses(WrongCount(0), read_raised, "raised")
        self.refuses(TooFar(1000001), read_raised, "raised\n0 0 9999999999999999\n0 4 0\n1000001 7 0")
        self.refuses(OnLine((0, 1, 2)), read_raised, "raised\n0 0 9999999999999999\n1 1 0\n2 2 0")
        self.refuses(TooFar(9999999999999999), read_raised, "raised\n0 0 0\n4 0 9999999999999999\n0 4 -9999999999999999")
        self.refuses(TooFar(-HIGH - 1), read_raised, f"raised\n0 0 0\n4 0 0\n0 4 0\n1 1 {-HIGH - 1}")
        self.refuses(OnPlane((0, 1, 2, 3)), read_raised, "raised\n0 0 0\n4 0 4\n0 4 4\n1 1 2")

    def test_ends_of_the_ranges(self):
        text = "\n".join(["raised", *[f"{x} {y} {(-1) ** k * HIGH}" for k, (x, y) in enumerate(WIDE[:4])]])
        self.same(read_raised(text).heights, (HIGH, -HIGH, HIGH, -HIGH))

    def test_never_a_bowl(self):
        self.assertIs(read_raised(write_raised(Bowl(Floor(SAMPLE), DEEP))).__class__, Raised)
