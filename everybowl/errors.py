"""The errors of the package: each one is a BowlError, and none is a subclass of another one."""


class BowlError(ValueError):
    """The base class of all errors of the package."""


class WrongCount(BowlError):
    """A list has too few or too many members."""

    def __init__(self, count):
        self.count = count


class TooFar(BowlError):
    """An integer is out of the range that is named for it."""

    def __init__(self, value):
        self.value = value


class ZeroBottom(BowlError):
    """The bottom of a fraction, or what it is divided by, is 0."""


class NoPoint(BowlError):
    """An integer is not the number of a point of the floor."""

    def __init__(self, number):
        self.number = number


class Repeated(BowlError):
    """A number is equal to an earlier one that must be different."""

    def __init__(self, number):
        self.number = number


class NoSize(BowlError):
    """A size is out of the range that is named for it."""

    def __init__(self, size):
        self.size = size


class OnLine(BowlError):
    """Points that must turn lie on a line."""

    def __init__(self, numbers):
        self.numbers = numbers


class OnPlane(BowlError):
    """Four raised points lie on a plane, or four points on a circle."""

    def __init__(self, numbers):
        self.numbers = numbers


class NotBowl(BowlError):
    """Heights are no bowl: the point is above the plane of a triangle around it."""

    def __init__(self, triangle, number):
        self.triangle = triangle
        self.number = number


class OtherFloor(BowlError):
    """Two things that belong together have different floors."""


class Within(BowlError):
    """A point is no corner: it lies within a triangle of other points."""

    def __init__(self, triangle):
        self.triangle = triangle


class NotTouched(BowlError):
    """No plane touches a raised point: it is above the plane of a triangle around it."""

    def __init__(self, triangle):
        self.triangle = triangle


class Barred(BowlError):
    """A subset is not lowered: a four bars it."""

    def __init__(self, four):
        self.four = four


class Crossed(BowlError):
    """A subset is not cut off by a line: a four crosses it."""

    def __init__(self, four):
        self.four = four


class Tied(BowlError):
    """Two points tie, so that no subset is the first one."""

    def __init__(self, pair):
        self.pair = pair


class Meets(BowlError):
    """A moving point meets another point."""

    def __init__(self, other):
        self.other = other


class NoForm(BowlError):
    """A string is not the name of a form of rows."""

    def __init__(self, form):
        self.form = form


class WrongRow(BowlError):
    """A row is none of this form."""

    def __init__(self, form):
        self.form = form


class WrongTurning(BowlError):
    """A pair cannot be exchanged at its place in the list."""

    def __init__(self, place):
        self.place = place


class WrongLine(BowlError):
    """A line of a text has none of the forms that it may have."""

    def __init__(self, line):
        self.line = line


class TooMany(BowlError):
    """A desk has, or would have, more points than its limit."""

    def __init__(self, limit):
        self.limit = limit


class NothingDone(BowlError):
    """There is no deed to undo."""


class NothingUndone(BowlError):
    """There is no deed to do again."""


class Refused(BowlError):
    """A step of a script was refused."""

    def __init__(self, place):
        self.place = place
