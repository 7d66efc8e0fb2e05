"""Texts of floors and of raised points."""

from everybowl.errors import WrongLine
from everybowl.floors import Floor
from everybowl.raised import Raised
from everybowl.ratios import writes_integer

MOST_DIGITS = 16


def write_floor(floor):
    """Return the text of a floor."""
    return "\n".join(["floor", *[f"{x} {y}" for x, y in floor.points]])


def write_raised(raised):
    """Return the text of raised points."""
    rows = [f"{x} {y} {z}" for (x, y), z in zip(raised.floor.points, raised.heights)]
    return "\n".join(["raised", *rows])


def read_floor(text):
    """Return the floor that a text describes."""
    return Floor([(x, y) for x, y in read_rows(text, "floor", 2)])


def read_raised(text):
    """Return the raised points that a text describes."""
    rows = read_rows(text, "raised", 3)
    floor = Floor([(x, y) for x, y, z in rows])
    return Raised(floor, [z for x, y, z in rows])


def read_rows(text, head, count):
    """Return the lists of so many integers in the lines behind the head."""
    lines = text.split("\n")
    if lines[0] != head:
        raise WrongLine(1)
    return [read_integers(line, count, number) for number, line in enumerate(lines[1:], start=2)]


def read_integers(line, count, number):
    """Return the integers of the line with this number."""
    words = line.split(" ")
    if len(words) != count or not all([writes_integer(word, MOST_DIGITS) for word in words]):
        raise WrongLine(number)
    return [int(word) for word in words]
