"""Papers: tuples that show something about raised points or their floor."""

from everybowl.cuts import line_for
from everybowl.errors import Barred, Crossed, NotTouched
from everybowl.holds import held_by, line_past
from everybowl.lowered import plane_for
from everybowl.nearest import hoop
from everybowl.papertexts import parts_read, words_written
from everybowl.touches import first_high, touching


def corner_paper(floor, number):
    """Return a paper that a point is a corner, or that it lies within a triangle."""
    held = held_by(floor, number)
    if held is None:
        return "corner", number, line_past(floor, number)
    triangle, weights = held
    return "within", number, triangle, weights


def cut_paper(floor, subset):
    """Return a paper that a line cuts a subset off, or that a four crosses it."""
    try:
        line = line_for(floor, subset)
    except Crossed as caught:
        return "crossed", ascending(subset), caught.four
    return "cut", ascending(subset), line


def under_paper(raised, subset):
    """Return a paper that a subset lies under a plane, or that a four bars it."""
    try:
        plane = plane_for(raised, subset)
    except Barred as caught:
        return "barred", ascending(subset), caught.four
    return "under", ascending(subset), plane


def touch_paper(raised, number):
    """Return a paper that a plane touches a raised point from below, or that it is above a triangle around it."""
    try:
        slopes = touching(raised, number)
    except NotTouched as caught:
        return "high", number, caught.triangle
    return "touched", number, slopes


def bowl_paper(raised):
    """Return a paper that the heights are a bowl, or that some raised point is above a triangle around it."""
    high = first_high(raised)
    if high is None:
        return "bowl", tuple([touching(raised, number) for number in range(len(raised))])
    triangle, number = high
    return "high", number, triangle


def hoop_paper(floor, subset):
    """Return a paper that exactly a subset is in a circle, or that a four bars it in the bowl of the circles."""
    try:
        circle = hoop(floor, subset)
    except Barred as caught:
        return "unhooped", ascending(subset), caught.four
    return "hoop", ascending(subset), circle


def ascending(subset):
    """Return the members of a subset as an ascending tuple."""
    return tuple(sorted(subset))


def write_paper(paper):
    """Return the text of a paper."""
    word, *parts = paper
    return " ".join([word, *words_written(word, parts)])


def read_paper(text):
    """Return the paper that a text describes."""
    words = text.split(" ")
    return (words[0], *parts_read(words[0], words[1:]))
