"""Fractions in lowest terms."""

from math import gcd

from signfours.base.checks import is_integer, is_passed
from signfours.errors import InvalidNumber, InvalidOperation, InvalidRatio, ParseError


class Ratio:
    """A fraction in lowest terms with a bottom above 0. It never changes."""

    def __init__(self, top, bottom=1):
        if not is_passed(top):
            raise InvalidNumber(top)
        if not is_passed(bottom) or bottom == 0:
            raise InvalidNumber(bottom)
        self.top, self.bottom = lowest_terms(top, bottom)
        self.sign = sign_of(self.top)

    @staticmethod
    def read(text):
        """The ratio with this `str`."""
        if not isinstance(text, str):
            raise ParseError(0)
        top, slash, bottom = text.partition("/")
        if not slash:
            bottom = "1"
        if not is_digits(top.removeprefix("-")) or not is_digits(bottom) or int(bottom) == 0:
            raise ParseError(0)
        found = made_ratio(int(top), int(bottom))
        # Only the text that is written for a ratio is read, so +1, 01, 2/4 and -0 are not.
        if str(found) != text:
            raise ParseError(0)
        return found

    def over(self, other):
        """The quotient by a ratio or an integer."""
        check_ratio(other)
        top, bottom = terms_of(other)
        if top == 0:
            raise InvalidOperation("no quotient by 0")
        return made_ratio(self.top * bottom, self.bottom * top)

    def compared(self, other):
        """-1, 0 or 1: less than, equal to or greater than a ratio or an integer."""
        check_ratio(other)
        top, bottom = terms_of(other)
        return sign_of(self.top * bottom - top * self.bottom)

    def __add__(self, other):
        if not is_fraction(other):
            return NotImplemented
        top, bottom = terms_of(other)
        return made_ratio(self.top * bottom + top * self.bottom, self.bottom * bottom)

    def __sub__(self, other):
        if not is_fraction(other):
            return NotImplemented
        top, bottom = terms_of(other)
        return made_ratio(self.top * bottom - top * self.bottom, self.bottom * bottom)

    def __mul__(self, other):
        if not is_fraction(other):
            return NotImplemented
        top, bottom = terms_of(other)
        return made_ratio(self.top * top, self.bottom * bottom)

    def __neg__(self):
        return made_ratio(-self.top, self.bottom)

    def __eq__(self, value):
        if isinstance(value, Ratio):
            return self.top == value.top and self.bottom == value.bottom
        return is_integer(value) and self.bottom == 1 and self.top == value

    def __bool__(self):
        return bool(self.top)

    def __str__(self):
        if self.bottom == 1:
            return str(self.top)
        return f"{self.top}/{self.bottom}"


def made_ratio(top, bottom):
    """The ratio of two integers of any length; results can be longer than what can be passed."""
    terms = lowest_terms(top, bottom)
    made = Ratio(0)
    made.top = terms[0]
    made.bottom = terms[1]
    made.sign = sign_of(terms[0])
    return made


def lowest_terms(top, bottom):
    """Top and bottom without a common divisor, the bottom above 0."""
    common = gcd(top, bottom)
    if bottom < 0:
        common = -common
    return top // common, bottom // common


def sign_of(number):
    """-1, 0 or 1."""
    if number == 0:
        return 0
    return 1 if number > 0 else -1


def is_fraction(value):
    """Whether the value can be passed where a ratio is asked for."""
    return isinstance(value, Ratio) or is_passed(value)


def check_ratio(value):
    """Refuses what is neither a ratio nor an integer."""
    if not is_fraction(value):
        raise InvalidRatio("neither a ratio nor an integer")


def terms_of(ratio):
    """Top and bottom of a ratio or an integer."""
    if isinstance(ratio, Ratio):
        return ratio.top, ratio.bottom
    return ratio, 1


def is_digits(word):
    """Whether the word consists of one or more of the digits 0 to 9."""
    return word.isascii() and word.isdigit()
