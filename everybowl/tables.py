"""Sums over table rows and how to undo them, and rows of counts."""

from math import comb

from everybowl.checks import check_count, check_range
from everybowl.errors import WrongRow

MOST_ENTRIES = 64
FARTHEST_ENTRY = 10 ** 40


def spread(row):
    """Return the list whose entry at s is the sum of row[m] * C(m, s) over all places m."""
    check_row(row, 0)
    return [sum([entry * comb(m, s) for m, entry in enumerate(row)]) for s in range(len(row))]


def gather(row):
    """Return the row whose spread this row is."""
    check_row(row, 0)
    return bare_gather(row)


def bare_gather(row):
    """Return what gather returns, and look at no range."""
    return [sum([gathered(s, m, row[s]) for s in range(m, len(row))]) for m in range(len(row))]


def gathered(s, m, entry):
    """Return what the entry at the place s adds to the place m."""
    return -comb(s, m) * entry if (s - m) % 2 == 1 else comb(s, m) * entry


def bends(row):
    """Return the list, two entries longer, of the second differences of a row."""
    check_row(row, 0)
    padded = [0, 0, *row, 0, 0]
    return [padded[s + 2] - 2 * padded[s + 1] + padded[s] for s in range(len(row) + 2)]


def unbend(row):
    """Return the list whose bends this row is."""
    check_row(row, 2)
    found = [0, 0]
    for bend in row:
        found.append(bend + 2 * found[-1] - found[-2])
    # Behind its last entry, the list goes on with the 0 that counts there.
    if found[-2:] != [0, 0]:
        raise WrongRow("bends")
    return found[2:-2]


def tally(counts, length):
    """Return the list whose entry at j tells how many of the counts are j."""
    # Not by the method `count` of lists: properties run this, and an error has an attribute of that name.
    return [len([entry for entry in counts if entry == j]) for j in range(length)]


def check_row(row, least):
    """Refuse a row that is too short or too long, and then its first integer out of range."""
    check_count(row, least, MOST_ENTRIES)
    for entry in row:
        check_range(entry, -FARTHEST_ENTRY, FARTHEST_ENTRY)
