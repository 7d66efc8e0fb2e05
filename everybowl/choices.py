"""Binomial numbers and subsets."""

from math import comb

from everybowl.checks import check_range, check_size


def choose(n, k):
    """Return how many subsets with k members a set with n members has."""
    check_range(n, 0, 60)
    check_range(k, -60, 60)
    return comb(n, k) if k >= 0 else 0


def subsets(n, size):
    """Yield all subsets of this size of the numbers from 0 to n - 1, in ascending order."""
    check_range(n, 0, 12)
    check_size(size, 0, n)
    yield from subset_list(n, size)


def subset_list(n, size):
    """Return what subsets yields, as a list, for a size from 0 to n."""
    found = [()]
    for _ in range(size):
        # A part with too few numbers behind it finds no next member and so drops out.
        found = [(*part, k) for part in found for k in range(first_behind(part), n)]
    return found


def first_behind(part):
    """Return the least number behind all members of an ascending tuple."""
    return part[-1] + 1 if part else 0
