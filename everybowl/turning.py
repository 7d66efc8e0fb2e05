"""The order of the points in a direction, and how it changes while the direction turns by half a turn."""

from math import gcd

from everybowl.checks import check_count, check_numbers
from everybowl.choices import choose, subset_list
from everybowl.errors import WrongTurning
from everybowl.floors import Floor
from everybowl.turns import bare_cross


def turning(floor):
    """Yield (direction, pairs) for each change of the order, in the order in which the direction turns."""
    yield from change_list(floor)


def change_list(floor):
    """Return what turning yields, as a list."""
    pairs = {}
    for first, last in subset_list(len(floor), 2):
        pairs.setdefault(meeting_direction(floor, first, last), []).append((first, last))
    # All directions lie within half a turn, so that each one is on the left of those that come before it.
    turned = sorted(pairs, key=lambda way: len([other for other in pairs if bare_cross(other, way) > 0]))
    return [(direction, pairs[direction]) for direction in turned]


def meeting_direction(floor, a, b):
    """Return the first direction in which two points are exchanged."""
    (start_x, start_y), (end_x, end_y) = sorted([floor.points[a], floor.points[b]])
    x, y = end_x - start_x, end_y - start_y
    divisor = gcd(x, y)
    return -y // divisor, x // divisor


def orders(floor):
    """Yield the first order, and then the order behind each change."""
    yield from order_list(floor)


def order_list(floor):
    """Return what orders yields, as a list."""
    found = [sorted(range(len(floor)), key=lambda number: floor.points[number])]
    for _, pairs in change_list(floor):
        found.append(exchanged_order(found[-1], pairs))
    return found


def exchanged_order(order, pairs):
    """Return an order in which the two points of each pair have changed places."""
    partners = {}
    for a, b in pairs:
        partners[a] = b
        partners[b] = a
    return [partners.get(number, number) for number in order]


def exchange_places(floor):
    """Return (a, b, place) for each pair, in the order of the exchanges."""
    return [
        placed
        for order, (_, pairs) in zip(order_list(floor), change_list(floor))
        for placed in placed_pairs(order, pairs)
    ]


def placed_pairs(order, pairs):
    """Return each pair with the number of points in front of it in an order, in ascending order of this number."""
    found = sorted([(min(order.index(a), order.index(b)), a, b) for a, b in pairs])
    return [(a, b, place) for place, a, b in found]


def read_turns(order, pairs):
    """Return (a, b, c, turn) for all triangles, told by the first order and the pairs in the order of exchange."""
    check_count(order, Floor.LEAST, Floor.MOST)
    check_numbers(order, len(order))
    count = choose(len(order), 2)
    check_count(pairs, count, count)
    for pair in pairs:
        check_numbers(pair, len(order))
    moments = exchange_moments(order, pairs)
    return [(*three, told_turn(order, moments, three)) for three in subset_list(len(order), 3)]


def exchange_moments(order, pairs):
    """Return a dict that tells for each ascending pair its place in the list, and refuse what cannot be exchanged."""
    present = list(order)
    moments = {}
    for place, (a, b) in enumerate(pairs):
        pair = tuple(sorted([a, b]))
        at, behind = sorted([present.index(a), present.index(b)])
        if pair in moments or behind - at != 1:
            raise WrongTurning(place)
        moments[pair] = place
        present[at], present[behind] = present[behind], present[at]
    return moments


def told_turn(order, moments, three):
    """Return the turn of three ascending numbers that the moments of their exchanges tell."""
    i, j, k = [number for number in order if number in three]
    turn = 1 if moments[tuple(sorted([i, j]))] < moments[tuple(sorted([j, k]))] else -1
    # Each pair that stands in descending order is an exchange of two, which changes the sign.
    falls = len([1 for first, last in ((i, j), (i, k), (j, k)) if first > last])
    return -turn if falls % 2 == 1 else turn
