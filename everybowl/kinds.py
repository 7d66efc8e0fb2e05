"""Kinds of floors: floors of one kind have the same turns, when their points get other numbers."""

from everybowl.choices import subset_list
from everybowl.floors import others
from everybowl.linerows import in_order
from everybowl.rims import rim


class Kind:
    """The least word of all corners of a floor, and the number of its points."""

    def __init__(self, word, size):
        self.word = word
        self.size = size

    def __eq__(self, other):
        return isinstance(other, Kind) and self.word == other.word and self.size == other.size


def kind_of(floor):
    """Return the kind of a floor."""
    return Kind(min([word_of(floor, labelled) for labelled in labellings(floor)]), len(floor))


def labellings(floor):
    """Return for each corner the list of all points in the order of their labels."""
    n = len(floor)
    # Around a corner all points lie within half a turn, which begins with the next corner on the rim.
    return [[corner, *in_order(floor, corner, others(n, corner))] for corner in rim(floor)]


def word_of(floor, labelled):
    """Return the word of points that are in the order of their labels."""
    turns = [floor.turn(labelled[i], labelled[j], labelled[k]) for i, j, k in subset_list(len(labelled), 3)]
    return "".join(["+" if turn == 1 else "-" for turn in turns])


def renamings(first, second):
    """Return all tuples that give each point of the first floor a number in the second one, with equal turns."""
    # A renaming leads each corner to a corner, and with it all labels; so it tells where one corner leads.
    labelled = labellings(first)[0]
    word = word_of(first, labelled)
    fitting = [names for names in labellings(second) if word_of(second, names) == word]
    return sorted([renaming(labelled, names) for names in fitting])


def renaming(labelled, names):
    """Return the tuple that has at the place of each labelled number the name with the same label."""
    return tuple([names[labelled.index(number)] for number in range(len(labelled))])
