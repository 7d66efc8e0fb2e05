"""Points 35 and 36: what a line row tells."""

from fractions import Fraction
from itertools import product
from math import comb

from everybowl.bowls import Bowl
from everybowl.cuts import cut_counts
from everybowl.errors import NoForm, TooFar, WrongCount, WrongRow
from everybowl.floors import Floor
from everybowl.fours import convex_fours
from everybowl.hub import Rows
from everybowl.linerows import corner_row, line_row
from everybowl.lowered import lowered_counts
from everybowl.means import mean_corners
from everybowl.planerows import inner_row, net_row, plane_row
from everybowl.ratios import Ratio
from tests.heights import HUGE, bowl_heights, many_bowls, many_raised
from tests.helpers import NESTED, ROUND, SAMPLE, WIDE, Case, all_floors

FORMS = ("lines", "corners", "inner", "cuts", "planes", "nets", "lowered", "means")
MORE = {"lines": -1, "corners": -2, "inner": -3, "cuts": 1, "planes": -2, "nets": -2, "lowered": 1, "means": -2}


def told(form, d):
    """What point 35 says that a line row tells, also of lists that are no line rows."""
    n = len(d) + 1
    planes = [(j + 1) * (2 * n - 2 - j) - sum(d[:j + 1]) for j in range(n - 2)]
    edges = [sum(d[j] * comb(n - 2 - j, r - 2) for j in range(n - 1)) for r in range(3, n + 1)]
    inner = []
    for j in range(n - 3):
        inner.append(n - d[j] + 2 * (inner[j - 1] if j > 0 else 0) - (inner[j - 2] if j > 1 else 0))
    middle = [1 + (2 * k - 1) * n - k * k - sum(d[:k - 1]) for k in range(1, n)]
    return {
        "lines": list(d), "corners": edges, "inner": inner, "cuts": [1, *d, 1], "planes": planes,
        "nets": [sum(planes[j] * comb(n - 3 - j, r - 3) for j in range(n - 2)) for r in range(3, n + 1)],
        "lowered": [1, *middle, 1],
        "means": [Ratio(total, comb(n, r)) for r, total in zip(range(3, n + 1), edges)],
    }[form]


def mirrored_row(n, head):
    """The mirrored list with the sum n * (n - 1) that begins with the head; None if it has an entry less than 3."""
    rest = n * (n - 1) - 2 * sum(head)
    middle = [rest] if n % 2 == 0 else [rest // 2, rest // 2]
    row = [*head, *middle, *head[::-1]]
    return row if min(row) >= 3 else None


def line_rows(n, step=1):
    """All line rows of n points, or some of them; most of them belong to no floor."""
    heads = product(range(3, n * (n - 1) // 2, step), repeat=(n - 2) // 2)
    return [row for row in [mirrored_row(n, list(head)) for head in heads] if row is not None]


ROWS = [row for n in range(3, 8) for row in line_rows(n)]
LONG_ROWS = [row for n, step in ((8, 7), (9, 8), (10, 9)) for row in line_rows(n, step)]


class RowsCase(Case):
    def same_row(self, got, wanted):
        self.same(got, wanted)
        for entry in got:
            self.assertTrue(entry.__class__ in (int, Ratio))

    def tells(self, rows, d):
        """The rows are those of this line row."""
        self.assertIs(rows.__class__, Rows)
        self.same(rows.size, len(d) + 1)
        for form in FORMS:
            self.same_row(rows(form), told(form, d))
            self.same([entry.__class__ for entry in rows(form)],
                      [Ratio if form == "means" else int] * (len(d) + 1 + MORE[form]))


class OfFloor(RowsCase):
    def test_forms(self):
        self.same(Rows.FORMS, FORMS)
        for floor in all_floors():
            self.tells(Rows.of(floor), line_row(floor))
            self.same(Rows.of(floor).FORMS, FORMS)

    def test_against_the_functions(self):
        for floor in all_floors():
            n, rows, bowl = len(floor), Rows.of(floor), Bowl(floor, bowl_heights(floor, 11))
            self.same(rows("lines"), line_row(floor))
            self.same(rows("corners"), corner_row(floor))
            self.same(rows("inner"), inner_row(bowl))
            self.same(rows("cuts"), cut_counts(floor))
            self.same(rows("planes"), plane_row(bowl))
            self.same(rows("nets"), net_row(bowl))
            self.same(rows("lowered"), lowered_counts(bowl))
            self.same_row(rows("means"), [mean_corners(floor, size) for size in range(3, n + 1)])
            self.same(rows.fours, convex_fours(floor))

    def test_inner_of_any_heights(self):
        for raised in many_raised()[::3]:
            self.same(Rows.of(raised.floor)("inner"), inner_row(raised))

    def test_known(self):
        rows = Rows.of(Floor(SAMPLE))
        self.same([rows("lowered"), rows("cuts"), rows("nets"), rows.fours],
                  [[1, 4, 6, 3, 1], [1, 3, 6, 3, 1], [4, 3], 0])
        self.same([rows("inner"), rows("corners"), rows("planes")], [[1], [12, 3], [3, 1]])
        self.same([mean.text() for mean in rows("means")], ["3", "3"])
        three = Rows.of(Floor(SAMPLE[:3]))
        self.same([three(form) for form in FORMS[:-1]], [[3, 3], [3], [], [1, 3, 3, 1], [1], [1], [1, 3, 3, 1]])

    def test_no_form(self):
        rows = Rows.of(Floor(SAMPLE))
        for form in ("", "line", "Lines", "lines ", "rows", "fours", "size", "x" * 10000):
            self.refuses(NoForm(form), rows, form)

    def test_new_lists(self):
        rows = Rows.of(Floor(NESTED))
        for form in FORMS:
            self.new_each_time(rows, form)
            self.tells(rows, line_row(Floor(NESTED)))


class Made(RowsCase):
    def test_there_and_back(self):
        for d in [*ROWS, *LONG_ROWS, *[line_row(floor) for floor in all_floors()]]:
            for form in FORMS:
                self.assertTrue(Rows.made(form, told(form, d))("lines") == d)

    def test_all_forms_of_made_rows(self):
        for d in [*ROWS[::9], *LONG_ROWS[::50]]:
            for form in FORMS:
                self.tells(Rows.made(form, tuple(told(form, d))), d)
                self.tells(Rows.made(form, told(form, d)), d)

    def test_a_row_without_a_floor(self):
        # No five points have seven corners.
        self.tells(Rows.made("lines", [7, 3, 3, 7]), [7, 3, 3, 7])
        self.same(Rows.made("lines", [7, 3, 3, 7]).fours, 3 * 5 - (2 * 3 + 2 * 3) // 2)
        self.same(Rows.made("lines", [7, 3, 3, 7])("planes"), [1, 4, 5])

    def test_no_form_first(self):
        for form in ("", "line", "Means", "fours", "lines\n"):
            for row in ([], [HUGE], [3, 6, 3], (3, 3)):
                self.refuses(NoForm(form), Rows.made, form, row)

    def test_every_length(self):
        for form in FORMS:
            for length in [*range(14), 100]:
                entry = Ratio(3) if form == "means" else HUGE
                for row in ([entry] * length, (entry,) * length):
                    if not 3 <= length - MORE[form] <= 10:
                        self.refuses(WrongCount(length), Rows.made, form, row)
                    elif form == "means":
                        if length > 1 and length != 2:
                            self.refuses(WrongRow(form), Rows.made, form, row)
                    elif length > 0:
                        self.refuses(TooFar(HUGE), Rows.made, form, row)

    def test_empty_inner_row(self):
        self.tells(Rows.made("inner", []), [3, 3])
        self.tells(Rows.made("inner", ()), [3, 3])

    def test_too_far(self):
        for form in FORMS[:-1]:
            row = told(form, line_row(Floor(NESTED)))
            for at in range(len(row)):
                for wrong in (10 ** 6 + 1, -10 ** 6 - 1, HUGE, -HUGE):
                    for other in (HUGE + 1, 0):
                        changed = row[:at] + [wrong] + [other] * (len(row) - at - 1)
                        self.refuses(TooFar(wrong), Rows.made, form, changed)
                        self.refuses(TooFar(wrong), Rows.made, form, tuple(changed))
                for edge in (10 ** 6, -10 ** 6):
                    self.refuses(WrongRow(form), Rows.made, form, row[:at] + [edge] + row[at + 1:])

    def test_changed_entries(self):
        for n in range(3, 8):
            for form in FORMS[:-1]:
                good = {tuple(told(form, d)): d for d in ROWS if len(d) == n - 1}
                self.assertEqual(len(good), len([d for d in ROWS if len(d) == n - 1]))
                for row in list(good)[::4]:
                    for changed in changes(row):
                        if changed in good:
                            self.same(Rows.made(form, changed)("lines"), good[changed])
                        else:
                            self.refuses(WrongRow(form), Rows.made, form, changed)
                            self.refuses(WrongRow(form), Rows.made, form, list(changed))

    def test_changed_entries_of_long_rows(self):
        for points in (NESTED, WIDE, ROUND, NESTED[:8]):
            d = line_row(Floor(points))
            for form in FORMS[:-1]:
                for changed in changes(tuple(told(form, d))):
                    # Of each form at most one line row tells a row, and the others tell of themselves.
                    try:
                        made = Rows.made(form, changed)
                    except WrongRow as caught:
                        self.same(caught.form, form)
                    else:
                        self.same(told(form, made("lines")), list(changed))
                        self.assertTrue(is_line_row(made("lines")))

    def test_lists_that_are_no_line_rows(self):
        wrong = [
            [3, 6, 4], [4, 6, 3], [3, 5, 3], [4, 5, 4], [2, 8, 2], [5, 2, 5], [0, 12, 0], [3, 4], [2, 4], [4, 3],
            [8, 2, 2, 8], [2, 8, 8, 2], [3, 7, 8, 3], [3, 7, 7, 4], [6, 5, 5, 6], [3, 7, 8, 2], [7, 4, 3, 6],
            [-3, 13, 13, -3], [6, 5, 8, 5, 6], [2, 9, 8, 9, 2], [9, 5, 2, 5, 9], [7, 7, 7, 7, 7, 6], [9, 2, 10, 10, 2, 9],
        ]
        for d in wrong:
            for form in FORMS:
                row = told(form, d)
                # Some forms do not look at all entries, so that a line row may tell the same.
                if row in [told(form, good) for good in ROWS if len(good) == len(d)]:
                    self.assertTrue(told(form, Rows.made(form, row)("lines")) == row)
                else:
                    self.refuses(WrongRow(form), Rows.made, form, row)
        for d in ([10] * 8 + [9], [9, 10, 10, 10, 12, 10, 10, 10, 10], [22, 2, 2, 2, 34, 2, 2, 2, 22]):
            self.refuses(WrongRow("lines"), Rows.made, "lines", d)
            self.refuses(WrongRow("cuts"), Rows.made, "cuts", [1, *d, 1])
        for wrong in ([0, 3, 6, 3, 1], [1, 3, 6, 3, 0], [2, 3, 6, 3, 2], [1, 3, 6, 3, -1]):
            self.refuses(WrongRow("cuts"), Rows.made, "cuts", wrong)
        for wrong in ([0, 4, 6, 3, 1], [1, 4, 6, 3, 0], [1, 5, 6, 3, 1], [1, 3, 6, 3, 1]):
            self.refuses(WrongRow("lowered"), Rows.made, "lowered", wrong)

    def test_means_that_no_line_row_tells(self):
        for n in (3, 4, 7, 10):
            good = told("means", line_row(Floor(NESTED[:n])))
            for at in range(n - 2):
                for wrong in (Ratio(10 ** 400 - 1), Ratio(1 - 10 ** 400), Ratio(1, 10 ** 400 - 1), Ratio(0),
                              Ratio(10 ** 399 + 1, 10 ** 399), Ratio(10 ** 400 - 1, 7), Ratio(-3), Ratio(10 ** 6 + 1),
                              good[at] + Ratio(1, 10 ** 9), good[at] - Ratio(1, 1000), good[at] + Ratio(1, 10 ** 300)):
                    row = good[:at] + [wrong] + good[at + 1:]
                    self.refuses(WrongRow("means"), Rows.made, "means", row)
                    self.refuses(WrongRow("means"), Rows.made, "means", tuple(row))
        self.refuses(WrongRow("means"), Rows.made, "means", [Ratio(10 ** 400 - 1)] * 8)

    def test_changed_means(self):
        for d in ROWS[::5]:
            n = len(d) + 1
            rows = [told("means", good) for good in ROWS if len(good) == n - 1]
            for at in range(n - 2):
                for step in (1, -1, 2):
                    row = told("means", d)
                    row[at] = row[at] + Ratio(step, comb(n, at + 3))
                    if row in rows:
                        self.assertTrue(Rows.made("means", row)("means") == row)
                    else:
                        self.refuses(WrongRow("means"), Rows.made, "means", row)

    def test_lists_are_copied(self):
        for form in FORMS:
            row = told(form, line_row(Floor(NESTED)))
            rows = Rows.made(form, row)
            row[0] = row[-1]
            row.append(5)
            self.tells(rows, line_row(Floor(NESTED)))


def changes(row):
    """The row with one entry changed, and with two entries changed against each other."""
    steps = [(at, step) for at in range(len(row)) for step in (1, -1)]
    found = [row, *[row[:at] + (row[at] + step,) + row[at + 1:] for at, step in steps]]
    for at, step in steps:
        for other in range(len(row)):
            if other != at:
                found.append(tuple([entry + step * (k == at) - step * (k == other) for k, entry in enumerate(row)]))
    return found


def is_line_row(d):
    n = len(d) + 1
    return d == d[::-1] and sum(d) == n * (n - 1) and min(d) >= 3


class Properties(RowsCase):
    def test_fours(self):
        for d in [*ROWS, *LONG_ROWS]:
            n = len(d) + 1
            half = Fraction(sum(j * (n - 2 - j) * entry for j, entry in enumerate(d)), 2)
            self.assertEqual(half.denominator, 1)
            self.same(Rows.made("lines", d).fours, 3 * comb(n, 4) - half.numerator)

    def test_convex(self):
        for d in ROWS:
            self.assertIs(Rows.made("lines", d).convex, d == [len(d) + 1] * len(d))
        for floor in all_floors():
            self.assertIs(Rows.of(floor).convex, line_row(floor)[0] == len(floor))
        self.assertIs(Rows.of(Floor(ROUND)).convex, True)
        self.assertIs(Rows.of(Floor(SAMPLE)).convex, False)
        self.assertIs(Rows.of(Floor(SAMPLE[:3])).convex, True)

    def test_equal(self):
        first = Rows.of(Floor(SAMPLE))
        for other in (Rows.of(Floor(SAMPLE[::-1])), Rows.made("planes", [3, 1]), Rows.made("lines", (3, 6, 3)), first):
            self.assertIs(first == other, True)
            self.assertIs(first != other, False)
        for other in (Rows.of(Floor(SAMPLE[:3])), Rows.made("lines", [4, 4, 4]), [3, 6, 3], (3, 6, 3), None, 4,
                      Floor(SAMPLE)):
            self.assertIs(first == other, False)
            self.assertIs(other == first, False)
            self.assertIs(first != other, True)

    def test_bowls_of_many_kinds(self):
        for bowl in many_bowls():
            self.assertIs(Rows.made("planes", plane_row(bowl)) == Rows.of(bowl.floor), True)
            self.assertIs(Rows.made("lowered", lowered_counts(bowl)) == Rows.of(bowl.floor), True)
