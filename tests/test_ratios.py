"""The class Ratio."""

import random
import unittest
from fractions import Fraction
from math import gcd

from signfours.base.ratios import Ratio
from signfours.errors import InvalidNumber, InvalidOperation, InvalidRatio, ParseError
from tests.support import Case, HAMILTON, LONG, NO_INTEGERS, NO_RATIOS, SIXTY, TOO_LONG

LONG_RATIO = Ratio(SIXTY) * Ratio(SIXTY)


def drawn(draw, size):
    return Fraction(draw.randint(-size, size), draw.choice((-1, 1)) * draw.randint(1, size))


def ratio(fraction):
    return Ratio(fraction.numerator, fraction.denominator)


class Ratios(Case):

    def is_worth(self, one, fraction):
        """The ratio has the worth of the fraction, in lowest terms, with all that follows."""
        self.assertIs(type(one), Ratio)
        self.same(one.top, fraction.numerator)
        self.same(one.bottom, fraction.denominator)
        self.same(one.sign, (fraction > 0) - (fraction < 0))
        self.assertEqual(str(one), str(fraction))
        self.assertIs(bool(one), fraction != 0)

    def pairs(self):
        draw = random.Random(11)
        for size in (3, 12, 1000, SIXTY):
            for _ in range(150):
                yield drawn(draw, size), drawn(draw, size)

    def test_lowest_terms(self):
        for top in range(-12, 13):
            for bottom in list(range(-12, 0)) + list(range(1, 13)):
                one = Ratio(top, bottom)
                self.is_worth(one, Fraction(top, bottom))
                self.assertEqual(gcd(one.top, one.bottom), 1)
                self.assertGreater(one.bottom, 0)
        self.is_worth(Ratio(7), Fraction(7))
        self.is_worth(Ratio(0, -9), Fraction(0))
        self.is_worth(Ratio(SIXTY, -SIXTY), Fraction(-1))
        self.is_worth(Ratio(-SIXTY, SIXTY - 1), Fraction(-SIXTY, SIXTY - 1))

    def test_refused_terms(self):
        for value in NO_INTEGERS + TOO_LONG:
            self.no_number(value, Ratio, value)
            self.no_number(value, Ratio, value, 0)
            self.no_number(value, Ratio, 1, value)
            self.no_number(value, Ratio, value, None)
        self.no_number(0, Ratio, 1, 0)
        self.no_number(0, Ratio, 0, 0)
        self.no_number("a", Ratio, "a", 0)

    def test_sums_and_products(self):
        for one, other in self.pairs():
            self.is_worth(ratio(one) + ratio(other), one + other)
            self.is_worth(ratio(one) - ratio(other), one - other)
            self.is_worth(ratio(one) * ratio(other), one * other)
            self.is_worth(-ratio(one), -one)
            if other != 0:
                self.is_worth(ratio(one).over(ratio(other)), one / other)
            self.same(ratio(one).compared(ratio(other)), (one > other) - (one < other))
            self.same(ratio(one).compared(ratio(one)), 0)

    def test_integers_on_the_right_side(self):
        for one, _ in self.pairs():
            for other in (-SIXTY, -7, -1, 0, 1, 2, 30, SIXTY, one.numerator, one.denominator):
                self.is_worth(ratio(one) + other, one + other)
                self.is_worth(ratio(one) - other, one - other)
                self.is_worth(ratio(one) * other, one * other)
                if other != 0:
                    self.is_worth(ratio(one).over(other), one / other)
                self.same(ratio(one).compared(other), (one > other) - (one < other))

    def test_near_values_are_told_apart(self):
        low, high = Ratio(SIXTY - 1, SIXTY), Ratio(SIXTY - 2, SIXTY - 1)
        self.assertEqual([low.compared(high), high.compared(low), low.compared(1), low == high], [1, -1, -1, False])

    def test_long_results_are_let(self):
        long = LONG_RATIO
        self.is_worth(long, Fraction(SIXTY * SIXTY))
        self.is_worth(long + 1, Fraction(SIXTY * SIXTY + 1))
        self.is_worth(Ratio(1).over(long), Fraction(1, SIXTY * SIXTY))
        self.is_worth(long.over(long), Fraction(1))
        self.same(long.compared(long - 1), 1)
        self.assertEqual(long, SIXTY * SIXTY)
        self.assertEqual(Ratio.read(str(long)), long)

    def test_no_other_operands(self):
        for value in NO_RATIOS:
            for one in (Ratio(1), Ratio(-2, 3), Ratio(0)):
                for act in (lambda: one + value, lambda: one - value, lambda: one * value):
                    self.assertRaises(TypeError, act)
        for left in (2, True, LONG, None, "a", HAMILTON):
            for act in (lambda: left + Ratio(1), lambda: left - Ratio(1), lambda: left * Ratio(1)):
                self.assertRaises(TypeError, act)

    def test_errors_of_over_and_compared(self):
        for value in NO_RATIOS:
            self.error_of(InvalidRatio, Ratio(1, 2).over, value)
            self.error_of(InvalidRatio, Ratio(0).over, value)
            self.error_of(InvalidRatio, Ratio(1, 2).compared, value)
        for zero in (0, Ratio(0), Ratio(0, -5)):
            self.error_of(InvalidOperation, Ratio(1, 2).over, zero)
            self.error_of(InvalidOperation, Ratio(0).over, zero)
        self.same(Ratio(0).compared(0), 0)
        self.is_worth(Ratio(0).over(-3), Fraction(0))

    def test_equality(self):
        for one, other in self.pairs():
            self.assertIs(ratio(one) == ratio(other), one == other)
            self.assertIs(ratio(one) != ratio(other), one != other)
            self.assertIs(ratio(one) == ratio(one), True)
            for value in (one.numerator, one.numerator + 1, -one.numerator):
                self.assertIs(ratio(one) == value, one == value)
                self.assertIs(ratio(one) != value, one != value)
                self.assertIs(value == ratio(one), one == value)
        self.assertIs(Ratio(1) == Ratio(-1), False)
        self.assertIs(Ratio(1, 2) == Ratio(1, 3), False)
        self.assertIs(Ratio(1, 2) == 1, False)

    def test_equality_with_every_value(self):
        for one in (Ratio(0), Ratio(1), Ratio(2), Ratio(1, 2)):
            for value in (None, True, False, "", "1", "1/2", (), (1,), (1, 2), [1], {}, {1: 1}, HAMILTON):
                self.assertIs(one == value, False)
                self.assertIs(one != value, True)
                self.assertIs(value == one, False)
            self.assertIs(one == LONG, False)
            for unit in HAMILTON.basis():
                self.assertIs(one == unit, False)

    def test_read_what_is_written(self):
        for one, other in self.pairs():
            self.is_worth(Ratio.read(str(one)), one)
            self.is_worth(Ratio.read(str(ratio(other))), other)
        for text in ("0", "-1", "5", "-3/2", "10/7", "1/10", "100", str(SIXTY), f"-{SIXTY}/{SIXTY - 1}"):
            self.assertEqual(str(Ratio.read(text)), text)

    def test_read_no_other_text(self):
        texts = (
            "", " ", "-", "/", "+1", "+0", "01", "-01", "00", "-0", "--1", "2/4", "1/1", "0/1", "0/2", "-0/2", "1/-2",
            "1/+2", "1/0", "0/0", "-1/0", "/2", "1/", "-/2", "1/2/3", "1//2", " 1", "1 ", "1 /2", "1/ 2", "- 1", "1\n",
            "1_0", "1.0", "1e3", "0x1", "a", "1a", "1/2a", "1/02", "01/2", "6/4", "None", "True", "(1)", "\u00b2",
            "\u0661", "1/\u0662",
        )
        for text in texts:
            self.same(self.error_of(ParseError, Ratio.read, text).spot, 0)
        for value in (None, True, 1, 0, -3, (1, 2), ["1"], {"1": 1}, Ratio(1), b"1", HAMILTON, LONG):
            self.same(self.error_of(ParseError, Ratio.read, value).spot, 0)

    def test_never_changes(self):
        one, other = Ratio(3, 4), Ratio(-5, 6)
        for _ in range(2):
            one + other, one - other, one * other, -one, one.over(other), one.compared(other), bool(one), str(one)
            self.is_worth(one, Fraction(3, 4))
            self.is_worth(other, Fraction(-5, 6))

    def test_not_iterated_over(self):
        self.assertRaises(TypeError, iter, Ratio(1))
        self.assertRaises(TypeError, list, Ratio(1))

    def test_kept_value(self):
        with self.assertRaises(InvalidNumber) as caught:
            Ratio(True, 0)
        self.assertIs(caught.exception.given, True)


if __name__ == "__main__":
    unittest.main()
