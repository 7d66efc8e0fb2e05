"""The corners of a floor and its rim."""


def corners(floor):
    """Return the numbers of the corners, in ascending order."""
    return sorted(rim(floor))


def rim(floor):
    """Return the corners in counterclockwise order, the lowest number first."""
    follower = followers(floor)
    found = [min(list(follower))]
    while len(found) < len(follower):
        found.append(follower[found[-1]])
    return found


def rim_area(floor):
    """Return the doubled area of the polygon of the corners."""
    found = rim(floor)
    return sum([floor.area(found[0], found[k - 1], found[k]) for k in range(2, len(found))])


def followers(floor):
    """Return a dict that tells for each corner the next one on the rim."""
    n = len(floor)
    return {a: b for a in range(n) for b in range(n) if a != b and floor.left_of(b, a) == []}
