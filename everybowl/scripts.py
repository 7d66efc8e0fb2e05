"""Scripts: lists of steps for a desk, and their texts."""

from everybowl.checks import check_count
from everybowl.errors import BowlError, Refused, WrongLine
from everybowl.floortexts import MOST_DIGITS
from everybowl.ratios import writes_integer

MOST_STEPS = 60
# How many integers stand behind each word.
WORDS = {"add": 3, "drop": 1, "move": 3, "lift": 2, "undo": 0, "redo": 0}


def run_script(desk, steps, *, whole=False):
    """Do the steps, and return how many there are; with `whole`, a refused step takes back all others."""
    check_count(steps, 0, MOST_STEPS)
    memory = desk.memory()
    desk.running = True
    try:
        do_steps(desk, steps)
    except Refused:
        if whole:
            desk.recall(memory)
        raise
    finally:
        desk.running = False
    return len(steps)


def do_steps(desk, steps):
    """Do the steps one after another, until one is refused."""
    for place, step in enumerate(steps):
        try:
            do_step(desk, step)
        except BowlError:
            raise Refused(place) from None


def do_step(desk, step):
    """Call the method of the desk that a step names."""
    word, *numbers = step
    if word == "add":
        # One by one: sets have a method of this name, too, and a call of that one takes no star.
        x, y, height = numbers
        desk.add(x, y, height)
    elif word == "drop":
        desk.drop(*numbers)
    elif word == "move":
        desk.move(*numbers)
    elif word == "lift":
        desk.lift(*numbers)
    elif word == "undo":
        desk.undo()
    else:
        desk.redo()


def write_script(steps):
    """Return the text of a script."""
    return "\n".join([" ".join([str(part) for part in step]) for step in steps])


def read_script(text):
    """Return the steps that a text describes."""
    if text == "":
        return []
    return [read_step(line, number) for number, line in enumerate(text.split("\n"), start=1)]


def read_step(line, number):
    """Return the step of the line with this number."""
    words = line.split(" ")
    word, parts = words[0], words[1:]
    if word not in WORDS or len(parts) != WORDS[word]:
        raise WrongLine(number)
    if not all([writes_integer(part, MOST_DIGITS) for part in parts]):
        raise WrongLine(number)
    return (word, *[int(part) for part in parts])
