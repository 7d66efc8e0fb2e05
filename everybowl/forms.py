"""The forms of rows: each row that a line row tells, and the line row that tells a row."""

from everybowl.choices import choose
from everybowl.linerows import corners_by_lines
from everybowl.planerows import nets_by_planes
from everybowl.ratios import Ratio
from everybowl.tables import bare_gather, bends, unbend


def lines_told(lines):
    """Return the line row itself."""
    return list(lines)


def corners_told(lines):
    """Return the corner row."""
    return corners_by_lines(lines)


def inner_told(lines):
    """Return the inner row, whose bends are n less the entries of the line row."""
    n = len(lines) + 1
    return unbend([n - entry for entry in lines])


def cuts_told(lines):
    """Return the numbers of subsets that are cut off by a line."""
    return [1, *lines, 1]


def planes_told(lines):
    """Return the plane row of a bowl."""
    n = len(lines) + 1
    return [both_sums(n, j) - sum(lines[:j + 1]) for j in range(n - 2)]


def both_sums(n, j):
    """Return what a bowl's entry of the plane row at j and the first j + 1 entries of the line row have together."""
    return (j + 1) * (2 * n - 2 - j)


def nets_told(lines):
    """Return the net row of a bowl."""
    return nets_by_planes(planes_told(lines))


def lowered_told(lines):
    """Return the numbers of lowered subsets of a bowl."""
    n = len(lines) + 1
    return [1, *[lowered_sums(n, k) - sum(lines[:k - 1]) for k in range(1, n)], 1]


def lowered_sums(n, k):
    """Return what the lowered subsets of size k of a bowl and the first k - 1 entries of the line row are together."""
    return 1 + (2 * k - 1) * n - k * k


def means_told(lines):
    """Return the mean numbers of corners."""
    n = len(lines) + 1
    return [Ratio(total, choose(n, size)) for size, total in enumerate(corners_by_lines(lines), start=3)]


def lines_of_corners(row):
    """Return the line row that tells a corner row, if there is one."""
    n = len(row) + 2
    # With the sum of the line row in front, the corner row is the spread of the reversed line row.
    return bare_gather([n * (n - 1), *row])[::-1]


def lines_of_inner(row):
    """Return the line row that tells an inner row, if there is one."""
    n = len(row) + 3
    return [n - bend for bend in bends(row)]


def lines_of_cuts(row):
    """Return the line row that tells the numbers of subsets that are cut off, if there is one."""
    return row[1:-1]


def lines_of_planes(row):
    """Return the line row that tells the plane row of a bowl, if there is one."""
    n = len(row) + 2
    return lines_of_sums([both_sums(n, j) - entry for j, entry in enumerate(row)])


def lines_of_nets(row):
    """Return the line row that tells the net row of a bowl, if there is one."""
    return lines_of_planes(bare_gather(row)[::-1])


def lines_of_lowered(row):
    """Return the line row that tells the numbers of lowered subsets of a bowl, if there is one."""
    n = len(row) - 1
    return lines_of_sums([lowered_sums(n, k) - row[k] for k in range(2, n)])


def lines_of_means(row):
    """Return the line row that tells the mean numbers of corners, if there is one."""
    n = len(row) + 2
    # What is not whole here is told by no line row.
    return lines_of_corners([mean.top * choose(n, size) // mean.bottom for size, mean in enumerate(row, start=3)])


def lines_of_sums(sums):
    """Return the line row of which all sums of first entries, but the whole one, are these."""
    steps = [after - before for before, after in zip([0, *sums], sums)]
    return [*steps, steps[0]]


TELLERS = {
    "lines": lines_told, "corners": corners_told, "inner": inner_told, "cuts": cuts_told,
    "planes": planes_told, "nets": nets_told, "lowered": lowered_told, "means": means_told,
}
READERS = {
    "lines": lines_told, "corners": lines_of_corners, "inner": lines_of_inner, "cuts": lines_of_cuts,
    "planes": lines_of_planes, "nets": lines_of_nets, "lowered": lines_of_lowered, "means": lines_of_means,
}


def row_told(form, lines):
    """Return the row of this form that a line row tells."""
    teller = TELLERS[form]
    return teller(lines)


def lines_telling(form, row):
    """Return the line row that tells a row of this form, or None."""
    reader = READERS[form]
    lines = reader(row)
    return lines if is_line_row(lines) and row_told(form, lines) == row else None


def is_line_row(lines):
    """Tell whether a list is mirrored, has the sum of the line row of a floor, and has no entry less than 3."""
    n = len(lines) + 1
    return lines == lines[::-1] and sum(lines) == n * (n - 1) and min(lines) >= 3
