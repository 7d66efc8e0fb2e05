"""Exact fractions."""

from math import gcd

from everybowl.checks import check_range
from everybowl.errors import WrongLine, ZeroBottom

# The least integer with more than Ratio.FIGURES digits; 10 ** 400 itself may not be written.
_TOO_LONG = (10 ** 50) ** 8
# The least integer with more digits than a price or a place may have.
_LONG = (10 ** 45) ** 2
_DIGITS = "0123456789"


class Ratio:
    """An exact fraction in lowest terms."""

    FIGURES = 400

    def __init__(self, top, bottom=1):
        check_figures(top)
        check_figures(bottom)
        if bottom == 0:
            raise ZeroBottom()
        divisor = signed_divisor(top, bottom)
        self.top = top // divisor
        self.bottom = bottom // divisor

    @classmethod
    def read(cls, text):
        """Return the Ratio that a text writes: an integer, or an integer, a slash and a positive integer."""
        top, slash, bottom = text.partition("/")
        if not writes_integer(top, Ratio.FIGURES):
            raise WrongLine(1)
        if slash == "":
            return cls(int(top))
        if not writes_integer(bottom, Ratio.FIGURES) or int(bottom) < 1:
            raise WrongLine(1)
        return cls(int(top), int(bottom))

    def text(self):
        """Return the text that read turns into this Ratio."""
        return f"{self.top}" if self.bottom == 1 else f"{self.top}/{self.bottom}"

    def __add__(self, other):
        b = as_ratio(other)
        return lowest(self.top * b.bottom + b.top * self.bottom, self.bottom * b.bottom)

    def __radd__(self, other):
        return self + other

    def __sub__(self, other):
        return self + -as_ratio(other)

    def __rsub__(self, other):
        return as_ratio(other) + -self

    def __mul__(self, other):
        b = as_ratio(other)
        return lowest(self.top * b.top, self.bottom * b.bottom)

    def __rmul__(self, other):
        return self * other

    def __neg__(self):
        return Ratio(-self.top, self.bottom)

    def __abs__(self):
        return Ratio(abs(self.top), self.bottom)

    def __eq__(self, other):
        return isinstance(other, Ratio) and self.top == other.top and self.bottom == other.bottom

    def divided(self, other):
        """Return the quotient of this Ratio and another one."""
        if other.top == 0:
            raise ZeroBottom()
        return lowest(self.top * other.bottom, self.bottom * other.top)

    def less(self, other):
        """Tell whether this Ratio is less than another one."""
        return self.top * other.bottom < other.top * self.bottom

    def sign(self):
        """Return 1, 0 or -1."""
        if self.top > 0:
            return 1
        return -1 if self.top < 0 else 0


def check_figures(value):
    """Refuse an integer with more digits than a Ratio may have."""
    check_range(value, 1 - _TOO_LONG, _TOO_LONG - 1)


def check_short(ratio):
    """Refuse a Ratio that is too long for a price or a place, with its top or else with its bottom."""
    check_range(ratio.top, 1 - _LONG, _LONG - 1)
    check_range(ratio.bottom, 1, _LONG - 1)


def signed_divisor(top, bottom):
    """Return what divides top and bottom into lowest terms with a positive bottom."""
    return gcd(top, bottom) if bottom > 0 else -gcd(top, bottom)


def lowest(top, bottom):
    """Return the Ratio of integers that may be too long before they are in lowest terms."""
    divisor = signed_divisor(top, bottom)
    return Ratio(top // divisor, bottom // divisor)


def as_ratio(value):
    """Return the Ratio of an operand, which is a Ratio or an integer."""
    return Ratio(value) if isinstance(value, int) else value


def writes_integer(word, figures):
    """Tell whether a word writes an integer with at most this many digits."""
    digits = word[1:] if word.startswith("-") else word
    if digits == "" or len(digits) > figures or any([sign not in _DIGITS for sign in digits]):
        return False
    return word == "0" or digits[0] != "0"
