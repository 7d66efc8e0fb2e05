"""All that the line row of a floor tells."""

from everybowl.checks import check_range
from everybowl.choices import choose
from everybowl.errors import NoForm, WrongCount, WrongRow
from everybowl.floors import Floor
from everybowl.forms import lines_telling, row_told
from everybowl.linerows import line_row

FARTHEST_ENTRY = 10 ** 6
# How many entries a row of each form has more than there are points.
MORE_ENTRIES = {
    "lines": -1, "corners": -2, "inner": -3, "cuts": 1, "planes": -2, "nets": -2, "lowered": 1, "means": -2,
}


class Rows:
    """A line row, and the eight forms of what it tells."""

    FORMS = ("lines", "corners", "inner", "cuts", "planes", "nets", "lowered", "means")

    def __init__(self, lines):
        self.size = len(lines) + 1
        self._lines = tuple(lines)

    @classmethod
    def of(cls, floor):
        """Return the rows of a floor."""
        return cls(line_row(floor))

    @classmethod
    def made(cls, form, row):
        """Return the rows whose form with this name is the given row."""
        check_form(form)
        check_length(form, row)
        if form != "means":
            for entry in row:
                check_range(entry, -FARTHEST_ENTRY, FARTHEST_ENTRY)
        lines = lines_telling(form, list(row))
        if lines is None:
            raise WrongRow(form)
        return cls(lines)

    def __call__(self, form):
        check_form(form)
        return row_told(form, list(self._lines))

    def __eq__(self, other):
        return isinstance(other, Rows) and self._lines == other._lines

    @property
    def fours(self):
        """The number of convex fours."""
        n = self.size
        return 3 * choose(n, 4) - sum([j * (n - 2 - j) * entry for j, entry in enumerate(self._lines)]) // 2

    @property
    def convex(self):
        """Whether all points are corners."""
        return all([entry == self.size for entry in self._lines])


def check_form(form):
    """Refuse a string that is not the name of a form."""
    if form not in Rows.FORMS:
        raise NoForm(form)


def check_length(form, row):
    """Refuse a row whose number of entries belongs to no floor."""
    if not Floor.LEAST <= len(row) - MORE_ENTRIES[form] <= Floor.MOST:
        raise WrongCount(len(row))
