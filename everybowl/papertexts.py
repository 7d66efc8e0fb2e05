"""The parts of papers as words of a line, and words as the parts of papers."""

from everybowl.errors import WrongLine
from everybowl.floors import Floor
from everybowl.ratios import Ratio, writes_integer

# The kinds of the parts behind each first word; only a bowl paper has as many slopes as there are points.
PARTS = {
    "corner": ("point", "integers"),
    "within": ("point", "triangle", "integers"),
    "cut": ("subset", "integers"),
    "crossed": ("subset", "four"),
    "under": ("subset", "ratios"),
    "barred": ("subset", "four"),
    "touched": ("point", "slopes"),
    "high": ("point", "triangle"),
    "hoop": ("subset", "ratios"),
    "unhooped": ("subset", "four"),
}
# How many words each kind of part takes, and how many numbers stand in the one word of some kinds.
WIDTHS = {"point": 1, "triangle": 1, "four": 1, "subset": 1, "integers": 3, "ratios": 3, "slopes": 2}
MEMBERS = {"triangle": 3, "four": 4}
EMPTY = "-"


def words_written(word, parts):
    """Return the words of the parts of a paper with this first word."""
    if word == "bowl":
        return [price.text() for slopes in parts[0] for price in slopes]
    return [written for kind, part in zip(PARTS[word], parts) for written in part_written(kind, part)]


def part_written(kind, part):
    """Return the words of one part."""
    if kind == "point":
        return [str(part)]
    if kind == "integers":
        return [str(value) for value in part]
    if kind in ("ratios", "slopes"):
        return [value.text() for value in part]
    return [EMPTY] if part == () else [",".join([str(number) for number in part])]


def parts_read(word, words):
    """Return the parts of a paper with this first word, as a list."""
    if word == "bowl":
        return [slopes_read(words)]
    if word not in PARTS or len(words) != sum([WIDTHS[kind] for kind in PARTS[word]]):
        raise WrongLine(1)
    parts = []
    place = 0
    for kind in PARTS[word]:
        behind = place + WIDTHS[kind]
        parts.append(part_read(kind, words[place:behind]))
        place = behind
    return parts


def slopes_read(words):
    """Return the pairs of Ratios of a bowl paper."""
    values = ratios_read(words)
    pairs = tuple([values[place:place + 2] for place in range(0, len(values), 2)])
    if len(values) % 2 == 1 or not Floor.LEAST <= len(pairs) <= Floor.MOST:
        raise WrongLine(1)
    return pairs


def part_read(kind, words):
    """Return one part."""
    if kind == "integers":
        return tuple([integer_read(word) for word in words])
    if kind in ("ratios", "slopes"):
        return ratios_read(words)
    if kind == "point":
        return point_read(words[0])
    if kind == "subset":
        return () if words[0] == EMPTY else numbers_read(words[0])
    numbers = numbers_read(words[0])
    if len(numbers) != MEMBERS[kind]:
        raise WrongLine(1)
    return numbers


def ratios_read(words):
    """Return the tuple of the Ratios that words write."""
    return tuple([Ratio.read(word) for word in words])


def integer_read(word):
    """Return the integer that a word writes."""
    if not writes_integer(word, Ratio.FIGURES):
        raise WrongLine(1)
    return int(word)


def numbers_read(word):
    """Return the ascending tuple of different numbers that a word writes, with commas between them."""
    numbers = [point_read(part) for part in word.split(",")]
    if numbers != sorted(set(numbers)):
        raise WrongLine(1)
    return tuple(numbers)


def point_read(word):
    """Return the number of a point that a word writes."""
    # No floor has more points than there are digits.
    if not writes_integer(word, 1) or word.startswith("-"):
        raise WrongLine(1)
    return int(word)
