"""What the tests of desks and scripts share: a desk told by lists, and deeds that look random."""

from everybowl.errors import (
    BowlError, NoPoint, NothingDone, NothingUndone, OnLine, OnPlane, TooFar, TooMany, WrongCount,
)
from everybowl.floors import Floor
from everybowl.raised import Raised
from tests.heights import HIGH
from tests.helpers import FAR, scattered


def state(desk):
    """The present points and all that a desk tells besides."""
    return (desk.raised.floor.points, desk.raised.heights, desk.limit, desk.done, desk.undone, desk.running, len(desk))


def history(desk):
    """All points that can be reached by undoing and by doing again; the desk is as before."""
    found = [state(desk)]
    done, undone = desk.done, desk.undone
    for acts in (["undo"] * done + ["redo"] * done, ["redo"] * undone + ["undo"] * undone):
        for act in acts:
            getattr(desk, act)()
            found.append(state(desk))
    return found


class Told:
    """A desk told by lists of points (x, y, height): the present one, those before and those taken back."""

    def __init__(self, places):
        self.places, self.before, self.behind, self.limit = list(places), [], [], 10

    def state(self):
        points = tuple([place[:2] for place in self.places])
        return (points, tuple([place[2] for place in self.places]), self.limit, len(self.before), len(self.behind),
                False, len(self.places))

    def do(self, word, *numbers):
        """Do a step: return the error that it has, or what it returns."""
        if word in ("undo", "redo"):
            return self.turn_back(word)
        new = list(self.places)
        error = self.changed(new, word, numbers) or error_of(new)
        if error:
            return error
        self.before.append(self.places)
        self.places, self.behind = new, []
        return len(new) - 1 if word == "add" else None

    def turn_back(self, word):
        first, last = (self.before, self.behind) if word == "undo" else (self.behind, self.before)
        if not first:
            return NothingDone() if word == "undo" else NothingUndone()
        last.append(self.places)
        self.places = first.pop()
        return None

    def changed(self, new, word, numbers):
        """Change the list; return an error that does not depend on how the points would lie."""
        if word == "add":
            if far(numbers):
                return far(numbers)
            if len(new) >= self.limit:
                return TooMany(self.limit)
            new.append(numbers)
            return None
        number = numbers[0]
        if not 0 <= number < len(new):
            return NoPoint(number)
        if word == "drop":
            del new[number]
            return WrongCount(2) if len(new) == 2 else None
        place = new[number]
        new[number] = (*numbers[1:], place[2]) if word == "move" else (*place[:2], *numbers[1:])
        return far(new[number])


def far(place):
    for value, most in zip(place, (FAR, FAR, HIGH)):
        if abs(value) > most:
            return TooFar(value)
    return None


def error_of(places):
    """The error of points that lie on a line or on a plane, or None."""
    try:
        Raised(Floor([place[:2] for place in places]), [place[2] for place in places])
    except (OnLine, OnPlane) as error:
        return error
    return None


def refused_with(act, *numbers):
    """What a call returns, or the error that it raises."""
    try:
        return act(*numbers)
    except BowlError as error:
        return error


def drawn_steps(seed, n, count):
    """Steps that look random: mostly deeds that are done, and some of each kind that are refused."""
    source, found = scattered(seed), []
    while len(found) < count:
        what, number = next(source) % 20, next(source) % (n + 2)
        x, y, z = [next(source) % 41 - 20 for _ in "xyz"]
        if what < 4:
            found.append(("add", x, y, z))
        elif what < 7:
            found.append(("drop", number))
        elif what < 11:
            found.append(("move", number, x, y))
        elif what < 14:
            found.append(("lift", number, z))
        elif what < 19:
            found.append((("undo", "redo")[what % 2],))
        else:
            found.append((("add", x, FAR + 1, z), ("lift", -1, z), ("move", number, -FAR - 1, y),
                          ("lift", number, -HIGH - 1))[z % 4])
    return found
