"""Checks of arguments that many modules share; each one raises the error that it is about."""

from everybowl.errors import NoPoint, NoSize, Repeated, TooFar, WrongCount


def check_count(members, least, most):
    """Refuse a list with fewer or more members than these."""
    if not least <= len(members) <= most:
        raise WrongCount(len(members))


def check_range(value, least, most):
    """Refuse an integer that is out of the range."""
    if not least <= value <= most:
        raise TooFar(value)


def check_size(size, least, most):
    """Refuse a size that is out of the range."""
    if not least <= size <= most:
        raise NoSize(size)


def check_number(number, n):
    """Refuse what is not the number of one of n points."""
    if not 0 <= number < n:
        raise NoPoint(number)


def check_numbers(numbers, n):
    """Refuse the first number that is no point, or that repeats an earlier one."""
    for place, number in enumerate(numbers):
        check_number(number, n)
        if number in numbers[:place]:
            raise Repeated(number)
