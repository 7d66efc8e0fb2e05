"""Points 7 to 9: fractions."""

from fractions import Fraction
from math import gcd

from everybowl.errors import TooFar, WrongLine, ZeroBottom
from everybowl.ratios import Ratio
from tests.helpers import Case

# The least integers with 401 and 5000 digits, and the greatest one with 400.
LONG = 10 ** 400
LONGER = 10 ** 4999
MOST = LONG - 1
BIG = 10 ** 399

PAIRS = [(top, bottom) for top in range(-6, 7) for bottom in range(-6, 7) if bottom != 0]
SOME = PAIRS[::5]


def sum_of(a, b):
    return a + b


def difference(a, b):
    return a - b


def times(a, b):
    return a * b


def parts(ratio):
    return (ratio.top, ratio.bottom)


class RatioCase(Case):
    def is_ratio(self, got, top, bottom):
        self.assertIs(got.__class__, Ratio)
        self.same(parts(got), (top, bottom))

    def is_fraction(self, got, fraction):
        self.is_ratio(got, fraction.numerator, fraction.denominator)


class Making(RatioCase):
    def test_lowest_terms(self):
        for top, bottom in PAIRS:
            self.is_fraction(Ratio(top, bottom), Fraction(top, bottom))

    def test_signs(self):
        self.is_ratio(Ratio(6, 8), 3, 4)
        self.is_ratio(Ratio(-6, 8), -3, 4)
        self.is_ratio(Ratio(6, -8), -3, 4)
        self.is_ratio(Ratio(-6, -8), 3, 4)

    def test_zero(self):
        for bottom in (1, -1, 7, -7, MOST, -MOST):
            self.is_ratio(Ratio(0, bottom), 0, 1)

    def test_default_bottom(self):
        for top in (0, 5, -5, MOST, -MOST):
            self.is_ratio(Ratio(top), top, 1)

    def test_figures(self):
        self.same(Ratio.FIGURES, 400)
        self.same(Ratio(1, 2).FIGURES, 400)

    def test_400_digits(self):
        for top in (BIG, MOST, -BIG, -MOST):
            for bottom in (BIG, MOST, -BIG, -MOST):
                self.is_fraction(Ratio(top, bottom), Fraction(top, bottom))

    def test_too_far(self):
        for wrong in (LONG, LONGER, -LONG, -LONGER):
            for bottom in (1, 0, 2, LONG + 1, LONGER + 1):
                self.refuses(TooFar(wrong), Ratio, wrong, bottom)
            for top in (1, 0, MOST):
                self.refuses(TooFar(wrong), Ratio, top, wrong)
            self.refuses(TooFar(wrong), Ratio, wrong)
        # Lowest terms come later, so that a long integer is refused also where they are short.
        self.refuses(TooFar(2 * LONG), Ratio, 2 * LONG, 2)
        self.refuses(TooFar(LONG), Ratio, 0, LONG)

    def test_zero_bottom(self):
        for top in (0, 1, -1, MOST):
            self.refuses(ZeroBottom(), Ratio, top, 0)


class Operators(RatioCase):
    def test_two_ratios(self):
        for a in SOME:
            for b in PAIRS:
                for act in (sum_of, difference, times):
                    self.is_fraction(act(Ratio(*a), Ratio(*b)), act(Fraction(*a), Fraction(*b)))

    def test_integers_on_either_side(self):
        for a in PAIRS:
            for k in (-7, -1, 0, 1, 2, 6):
                for act in (sum_of, difference, times):
                    self.is_fraction(act(Ratio(*a), k), act(Fraction(*a), k))
                    self.is_fraction(act(k, Ratio(*a)), act(k, Fraction(*a)))

    def test_one_sign(self):
        for a in PAIRS:
            self.is_fraction(-Ratio(*a), -Fraction(*a))
            self.is_fraction(abs(Ratio(*a)), abs(Fraction(*a)))
        self.is_ratio(-Ratio(MOST, BIG), -MOST // gcd(MOST, BIG), BIG // gcd(MOST, BIG))
        self.is_ratio(abs(Ratio(-MOST)), MOST, 1)

    def test_divided(self):
        for a in SOME:
            for b in PAIRS:
                if b[0] != 0:
                    self.is_fraction(Ratio(*a).divided(Ratio(*b)), Fraction(*a) / Fraction(*b))
                else:
                    self.refuses(ZeroBottom(), Ratio(*a).divided, Ratio(*b))
        self.refuses(ZeroBottom(), Ratio(MOST).divided, Ratio(0))

    def test_long_integers_on_either_side(self):
        zero, small, big = Ratio(0), Ratio(-2, 3), Ratio(MOST, BIG)
        for wrong in (LONG, LONGER, -LONG, -LONGER):
            for a in (zero, small, big):
                for act in (sum_of, difference, times):
                    self.refuses(TooFar(wrong), act, a, wrong)
                    self.refuses(TooFar(wrong), act, wrong, a)

    def test_integers_of_400_digits(self):
        for k in (BIG, MOST, -BIG, -MOST):
            for act in (sum_of, difference, times):
                self.is_fraction(act(Ratio(0), k), Fraction(act(0, k)))
                self.is_fraction(act(k, Ratio(0)), Fraction(act(k, 0)))
            self.is_ratio(Ratio(1) * k, k, 1)
            self.is_ratio(k - Ratio(k), 0, 1)

    def test_objects_stay(self):
        a, b = Ratio(1, 2), Ratio(-3, 4)
        for act in (sum_of, difference, times, Ratio.divided):
            act(a, b)
        self.same([-a == a, abs(b) == b, parts(a), parts(b)], [False, False, (1, 2), (-3, 4)])


class LongResults(RatioCase):
    def test_top(self):
        self.is_ratio(Ratio(MOST - 1) + 1, MOST, 1)
        self.is_ratio(Ratio(1 - MOST) - 1, -MOST, 1)
        self.refuses(TooFar(LONG), sum_of, Ratio(MOST), 1)
        self.refuses(TooFar(LONG), sum_of, 1, Ratio(MOST))
        self.refuses(TooFar(LONG), sum_of, Ratio(MOST), Ratio(1))
        self.refuses(TooFar(-LONG), difference, Ratio(-MOST), 1)
        self.refuses(TooFar(-LONG), difference, -1, Ratio(MOST))
        self.refuses(TooFar(2 * MOST), times, Ratio(MOST), 2)
        self.refuses(TooFar(MOST * MOST), times, Ratio(MOST), Ratio(MOST))
        self.refuses(TooFar(-MOST * MOST), times, -MOST, Ratio(MOST))
        self.refuses(TooFar(10 * BIG), Ratio(BIG).divided, Ratio(1, 10))
        self.refuses(TooFar(-10 * BIG), Ratio(BIG).divided, Ratio(-1, 10))

    def test_bottom(self):
        self.is_ratio(Ratio(1, 10 ** 200) * Ratio(1, 10 ** 199), 1, BIG)
        self.refuses(TooFar(LONG), times, Ratio(1, 10 ** 200), Ratio(1, 10 ** 200))
        self.refuses(TooFar(LONG), times, Ratio(-1, 10 ** 200), Ratio(1, 10 ** 200))
        self.refuses(TooFar(MOST * BIG), times, Ratio(1, MOST), Ratio(-1, BIG))
        self.refuses(TooFar(LONG), Ratio(1, BIG).divided, Ratio(10))
        self.refuses(TooFar(LONG), Ratio(1, BIG).divided, Ratio(-10))

    def test_top_before_bottom(self):
        self.refuses(TooFar(MOST ** 2), times, Ratio(MOST, BIG), Ratio(MOST, BIG))
        self.refuses(TooFar(MOST * BIG + 1), sum_of, Ratio(MOST), Ratio(1, BIG))
        top = Fraction(1, MOST) + Fraction(1, MOST - 1)
        self.refuses(TooFar(top.numerator), sum_of, Ratio(1, MOST), Ratio(1, MOST - 1))
        gap = Fraction(1, MOST - 1) - Fraction(1, MOST)
        self.same(gap.numerator, 1)
        self.refuses(TooFar(gap.denominator), difference, Ratio(1, MOST - 1), Ratio(1, MOST))

    def test_only_lowest_terms_count(self):
        self.is_ratio(Ratio(MOST, BIG) * Ratio(BIG, MOST), 1, 1)
        self.is_ratio(Ratio(MOST, BIG).divided(Ratio(MOST, BIG)), 1, 1)
        self.is_ratio(Ratio(1, BIG) + Ratio(1, BIG), 1, BIG // 2)
        self.is_ratio(Ratio(MOST, 7) - Ratio(MOST, 7), 0, 1)
        self.is_ratio(Ratio(MOST) - Ratio(MOST, 2), *parts(Ratio(MOST, 2)))
        self.is_ratio(Ratio(0).divided(Ratio(MOST, BIG)), 0, 1)


class Comparing(RatioCase):
    def test_equal(self):
        for a in PAIRS:
            for b in PAIRS:
                self.assertIs(Ratio(*a) == Ratio(*b), Fraction(*a) == Fraction(*b))
                self.assertIs(Ratio(*a) != Ratio(*b), Fraction(*a) != Fraction(*b))

    def test_not_equal_to_others(self):
        for other in (0, 1, 5, LONGER, "1", (1, 1), [1, 1], None):
            self.assertIs(Ratio(1) == other, False)
            self.assertIs(other == Ratio(1), False)
        self.assertIs(Ratio(5) == 5, False)
        self.assertIs(Ratio(0) == 0, False)

    def test_less(self):
        for a in PAIRS:
            for b in PAIRS:
                self.assertIs(Ratio(*a).less(Ratio(*b)), Fraction(*a) < Fraction(*b))
        self.assertIs(Ratio(MOST - 1, MOST).less(Ratio(MOST, MOST)), True)
        self.assertIs(Ratio(-MOST, BIG).less(Ratio(1 - MOST, BIG)), True)

    def test_sign(self):
        for top, bottom in PAIRS:
            value = top * bottom
            self.same(Ratio(top, bottom).sign(), (value > 0) - (value < 0))


class Texts(RatioCase):
    def test_text(self):
        for ratio, text in ((Ratio(-3, 4), "-3/4"), (Ratio(5), "5"), (Ratio(0), "0"), (Ratio(0, -3), "0"),
                            (Ratio(-5), "-5"), (Ratio(10, -4), "-5/2"), (Ratio(8, 4), "2")):
            self.same(ratio.text(), text)

    def test_there_and_back(self):
        longest = [Ratio(MOST, BIG), Ratio(-MOST), Ratio(1, MOST), Ratio(-BIG, MOST)]
        for ratio in [Ratio(*pair) for pair in PAIRS] + longest:
            self.is_ratio(Ratio.read(ratio.text()), *parts(ratio))

    def test_read(self):
        for text, top, bottom in (("6/8", 3, 4), ("-6/8", -3, 4), ("0", 0, 1), ("0/5", 0, 1), ("7/1", 7, 1),
                                  ("-10/5", -2, 1), ("100", 100, 1), ("-1", -1, 1), ("10/100", 1, 10)):
            self.is_ratio(Ratio.read(text), top, bottom)

    def test_400_digits(self):
        self.is_ratio(Ratio.read("9" * 400), MOST, 1)
        self.is_ratio(Ratio.read("-" + "9" * 400), -MOST, 1)
        self.is_ratio(Ratio.read("-" + "9" * 400 + "/" + "3" * 400), -3, 1)
        self.is_ratio(Ratio.read("1/" + "9" * 400), 1, MOST)

    def test_no_fraction(self):
        integers = ["", " ", "-", "--1", "+1", "-0", "00", "01", "-01", "1 ", " 1", "1\n", "\n1", "\n", "1_0", "1.0",
                    "0x1", "a", "1a", "- 1", "1-", "9" * 401, "-" + "9" * 401, "1" + "0" * 400, "9" * 5000,
                    "0" * 401, "9" * 10000]
        for text in integers:
            self.refuses(WrongLine(1), Ratio.read, text)
            self.refuses(WrongLine(1), Ratio.read, text + "/2")
            self.refuses(WrongLine(1), Ratio.read, "2/" + text)
        for text in ("/", "1/", "/1", "1/0", "0/0", "1/-2", "-1/-2", "1/-0", "1/+2", "1/01", "1/00", "1/2/3", "1//2",
                     "1/2/", "1 /2", "1/ 2", "1/2 ", "1/2\n", "1\n/2", "1/2\n3", "1:2"):
            self.refuses(WrongLine(1), Ratio.read, text)
