"""Lowered subsets that differ by an exchange of two points, and ways from one of them to another."""

from everybowl.checks import check_numbers
from everybowl.choices import subset_list
from everybowl.errors import WrongCount
from everybowl.lowered import check_lowered
from everybowl.pencils import pencil_sets
from everybowl.tables import tally


def neighbours(raised, subset):
    """Return the neighbours of a lowered subset, in ascending order."""
    check_lowered(raised, subset)
    return sorted(neighbour_table(raised).get(tuple(sorted(subset)), []))


def neighbour_table(raised):
    """Return a dict that tells for each subset that has neighbours the list of them."""
    table = {}
    for first, second in neighbour_pairs(raised):
        table.setdefault(first, []).append(second)
        table.setdefault(second, []).append(first)
    return table


def neighbour_pairs(raised):
    """Return all pairs of neighbours, each once."""
    return [
        (tuple(sorted([*part, a])), tuple(sorted([*part, b])))
        for a, b in subset_list(len(raised), 2)
        for part in pencil_sets(raised, a, b)
    ]


def neighbour_counts(raised):
    """Return for each size from 0 to n how many pairs of neighbours there are."""
    return tally([len(first) for first, second in neighbour_pairs(raised)], len(raised) + 1)


def walk(raised, first, last):
    """Return a shortest list of subsets from the first to the last one, each a neighbour of the one before."""
    check_numbers(first, len(raised))
    check_numbers(last, len(raised))
    if len(first) != len(last):
        raise WrongCount(len(last))
    check_lowered(raised, first)
    check_lowered(raised, last)
    return shortest_way(neighbour_table(raised), tuple(sorted(first)), tuple(sorted(last)))


def shortest_way(table, first, last):
    """Return a shortest list of subsets from the first to the last one, each a neighbour of the one before."""
    follower = followers_to(table, first, last)
    way = [first]
    while way[-1] != last:
        way.append(follower[way[-1]])
    return way


def followers_to(table, first, last):
    """Return a dict that tells for each subset on a shortest way to the last one what follows it there."""
    # The search goes back from the last subset, ring by ring, until it has met the first one.
    follower = {last: last}
    ring = [last]
    while first not in follower:
        fresh = []
        for subset in list(ring):
            for neighbour in table[subset]:
                if neighbour not in follower:
                    follower[neighbour] = subset
                    fresh.append(neighbour)
        ring = fresh
    return follower
