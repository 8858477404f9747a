"""Algebras of two numbers, and their fours."""

from math import gcd, lcm

from signfours.base.checks import is_passed
from signfours.base.ratios import check_ratio, made_ratio, terms_of
from signfours.errors import InvalidAlgebra, InvalidFour, InvalidNumber, InvalidOperation, Refused
from signfours.place.signs import signed_places

MAX_POWER = 1000
LETTERS = ("", "i", "j", "k")


class Algebra:
    """The algebra (a, b) of two numbers. It never changes."""

    def __init__(self, a, b):
        self.places = signed_places(a, b)
        self.a = a
        self.b = b
        self.discriminant = product_of_primes(self.places)
        self.is_tables = len(self.places) == 0
        self.is_definite = 0 in self.places

    def basis(self):
        """The fours 1, i, j, k."""
        return (
            Four(self, (1, 0, 0, 0)), Four(self, (0, 1, 0, 0)),
            Four(self, (0, 0, 1, 0)), Four(self, (0, 0, 0, 1)),
        )

    def __eq__(self, value):
        return isinstance(value, Algebra) and self.a == value.a and self.b == value.b

    def __str__(self):
        return f"({self.a}, {self.b})"


class Four:
    """The four of an algebra with four entries over a common bottom. It never changes."""

    def __init__(self, algebra, entries, bottom=1):
        check_algebra(algebra)
        if not is_passed_entries(entries):
            raise InvalidFour("the entries are no tuple of four integers")
        if not is_passed(bottom) or bottom == 0:
            raise InvalidNumber(bottom)
        self.algebra = algebra
        self.entries, self.bottom = lowest_entries(entries, bottom)
        self.trace = made_ratio(2 * self.entries[0], self.bottom)
        self.norm = norm_of(algebra, self.entries, self.bottom)
        self.is_ratio = self.entries[1:] == (0, 0, 0)

    def mate(self):
        """The four with the opposite entries of i, j and k."""
        return made_four(self.algebra, mate_entries(self.entries), self.bottom)

    def inverse(self):
        """The four that makes 1 with this one."""
        if not self.norm:
            raise Refused(("norm",))
        entries = tuple([part * self.norm.bottom for part in mate_entries(self.entries)])
        return made_four(self.algebra, entries, self.bottom * self.norm.top)

    def power(self, many):
        """The power by an integer from -1000 to 1000."""
        if not is_passed(many) or abs(many) > MAX_POWER:
            raise InvalidNumber(many)
        if many < 0:
            return self.inverse().power(-many)
        made, under = (1, 0, 0, 0), 1
        square, below = self.entries, self.bottom
        while many > 0:
            if many % 2 == 1:
                made, under = product_entries(self.algebra, made, square), under * below
            many = many // 2
            if many > 0:
                square, below = product_entries(self.algebra, square, square), below * below
        return made_four(self.algebra, made, under)

    def scaled(self, ratio):
        """The four with all entries multiplied by a ratio or an integer."""
        check_ratio(ratio)
        top, bottom = terms_of(ratio)
        return made_four(self.algebra, tuple([part * top for part in self.entries]), self.bottom * bottom)

    def __add__(self, other):
        if not isinstance(other, Four):
            return NotImplemented
        check_operands(self, other)
        entries = tuple([one * other.bottom + two * self.bottom for one, two in zip(self.entries, other.entries)])
        return made_four(self.algebra, entries, self.bottom * other.bottom)

    def __sub__(self, other):
        if not isinstance(other, Four):
            return NotImplemented
        return self + -other

    def __mul__(self, other):
        if not isinstance(other, Four):
            return NotImplemented
        check_operands(self, other)
        entries = product_entries(self.algebra, self.entries, other.entries)
        return made_four(self.algebra, entries, self.bottom * other.bottom)

    def __neg__(self):
        return made_four(self.algebra, tuple([-part for part in self.entries]), self.bottom)

    def __eq__(self, value):
        return (
            isinstance(value, Four) and self.algebra == value.algebra
            and self.entries == value.entries and self.bottom == value.bottom
        )

    def __bool__(self):
        return any(self.entries)

    def __str__(self):
        if self.bottom == 1:
            return str(written_terms(self.entries))
        return f"({written_terms(self.entries)})/{self.bottom}"


def made_four(algebra, entries, bottom):
    """The four with integers of any length; results can be longer than what can be passed."""
    lowest = lowest_entries(entries, bottom)
    made = Four(algebra, (0, 0, 0, 0))
    made.entries = lowest[0]
    made.bottom = lowest[1]
    made.trace = made_ratio(2 * lowest[0][0], lowest[1])
    made.norm = norm_of(algebra, lowest[0], lowest[1])
    made.is_ratio = lowest[0][1:] == (0, 0, 0)
    return made


def check_algebra(value):
    """Refuses what is no algebra."""
    if not isinstance(value, Algebra):
        raise InvalidAlgebra("no algebra")


def check_four(value):
    """Refuses what is no four."""
    if not isinstance(value, Four):
        raise InvalidFour("no four")


def check_fours(one, other):
    """Refuses two values unless they are fours of one algebra."""
    check_four(one)
    check_four(other)
    if one.algebra != other.algebra:
        raise InvalidFour("fours of unlike algebras")


def is_four_of(algebra, value):
    """Whether the value is a four of the algebra."""
    return isinstance(value, Four) and value.algebra == algebra


def is_fours_of(algebra, value, least, most):
    """Whether the value is a tuple of fours of the algebra, neither too few nor too many."""
    if not isinstance(value, tuple) or not least <= len(value) <= most:
        return False
    return all([is_four_of(algebra, four) for four in value])


def over_one_bottom(fours):
    """The list of the entries of some fours over one bottom, and this bottom."""
    bottom = 1
    for four in fours:
        bottom = lcm(bottom, four.bottom)
    return [tuple([entry * (bottom // four.bottom) for entry in four.entries]) for four in fours], bottom


def check_operands(one, other):
    """Refuses to join two fours of unlike algebras by an operation."""
    if one.algebra != other.algebra:
        raise InvalidOperation("fours of unlike algebras")


def is_passed_entries(value):
    """Whether the value is a tuple of four integers that can be passed."""
    return isinstance(value, tuple) and len(value) == 4 and all([is_passed(part) for part in value])


def product_of_primes(places):
    """The product of the primes among some places."""
    made = 1
    for place in places:
        if place > 0:
            made = made * place
    return made


def lowest_entries(entries, bottom):
    """The entries and the bottom without a common divisor, the bottom above 0."""
    w, x, y, z = entries
    common = gcd(w, x, y, z, bottom)
    if bottom < 0:
        common = -common
    return (w // common, x // common, y // common, z // common), bottom // common


def mate_entries(entries):
    """The entries of the mate."""
    w, x, y, z = entries
    return w, -x, -y, -z


def norm_of(algebra, entries, bottom):
    """The norm of the four with these entries."""
    w, x, y, z = entries
    top = w * w - algebra.a * x * x - algebra.b * y * y + algebra.a * algebra.b * z * z
    return made_ratio(top, bottom * bottom)


def product_entries(algebra, one, other):
    """The entries of the product, by the rules i i = a, j j = b, i j = k and j i = -k."""
    a, b = algebra.a, algebra.b
    w, x, y, z = one
    s, t, u, v = other
    return (
        w * s + a * x * t + b * y * u - a * b * z * v,
        w * t + x * s - b * y * v + b * z * u,
        w * u + y * s + a * x * v - a * z * t,
        w * v + z * s + x * u - y * t,
    )


def written_terms(entries):
    """The terms of the integers that are not 0, such as -i+2k, or 0."""
    terms = [written_term(size, letter) for size, letter in zip(entries, LETTERS) if size != 0]
    return "".join(terms).removeprefix("+") or "0"


def written_term(size, letter):
    """A term with its sign, without a 1 ahead of a letter."""
    sign = "-" if size < 0 else "+"
    digits = "" if letter and abs(size) == 1 else str(abs(size))
    return f"{sign}{digits}{letter}"
