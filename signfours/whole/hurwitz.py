"""Whole fours: division with rest, common factors, factors along primes, and exchanges."""

from math import gcd

from signfours.base.checks import is_integer
from signfours.base.numbers import MAX_NUMBER, is_prime
from signfours.errors import InvalidFour, InvalidOperation, TooMany
from signfours.four.fours import Four
from signfours.order.lattices import Lattice
from signfours.whole.parts import (
    common_rows, doubled, factor_ahead, hamilton, is_whole_four, small_division, small_row, without_factor,
)

MAX_FACTOR = 1000


def whole_lattice():
    """The lattice of all whole fours."""
    algebra = hamilton()
    return Lattice(algebra, algebra.basis() + (Four(algebra, (1, 1, 1, 1), 2),))


def is_whole(value):
    """Whether the value is a whole four."""
    return is_whole_four(value)


def is_primitive(value):
    """Whether the value is a whole four other than 0 that is no multiple of another one by an integer above 1."""
    if not is_whole_four(value) or not value:
        return False
    w, x, y, z = doubled(value)
    shared = gcd(w, x, y, z)
    # Integers without a common divisor are twice the entries of another whole four if all are odd.
    return shared == 1 or (shared == 2 and not all([part // 2 % 2 == 1 for part in (w, x, y, z)]))


def divided(one, other, *, ahead=False):
    """Any pair (q, r) with one == q * other + r, or other * q + r, and a norm of r less than that of other."""
    check_division(one, other, ahead)
    if ahead:
        quotient, rest = divided(one.mate(), other.mate())
        return quotient.mate(), rest.mate()
    return small_division(one, other)


def is_divided(one, other, value, *, ahead=False):
    """Whether the value is such a pair."""
    check_division(one, other, ahead)
    if not is_tuple_of_wholes(value, 2):
        return False
    quotient, rest = value
    product = other * quotient if ahead else quotient * other
    return one == product + rest and rest.norm.compared(other.norm) < 0


def common(one, other, *, ahead=False):
    """Any triple (d, s, t) with the common factor d == s * one + t * other, or one * s + other * t."""
    check_common(one, other, ahead)
    if ahead:
        factor, first, second = common(one.mate(), other.mate())
        return factor.mate(), first.mate(), second.mate()
    row, idle = common_rows(one, other)
    return small_row(row, idle)


def is_common(one, other, value, *, ahead=False):
    """Whether the value is such a triple."""
    check_common(one, other, ahead)
    if not is_tuple_of_wholes(value, 3) or not value[0]:
        return False
    factor, first, second = value
    if ahead:
        total = one * first + other * second
        return factor == total and is_whole(factor.inverse() * one) and is_whole(factor.inverse() * other)
    total = first * one + second * other
    return factor == total and is_whole(one * factor.inverse()) and is_whole(other * factor.inverse())


def factors_along(four, primes):
    """Any factors of the four along the primes."""
    check_factors(four, primes)
    found = []
    rest = four
    for prime in primes[:-1]:
        factor = factor_ahead(rest, prime)
        found.append(factor)
        rest = without_factor(rest, factor)
    return tuple(found) + (rest,)


def is_factors(four, primes, value):
    """Whether the value is a tuple of factors of the four along the primes."""
    check_factors(four, primes)
    if not is_tuple_of_wholes(value, len(primes)):
        return False
    made = value[0]
    for factor in value[1:]:
        made = made * factor
    return made == four and all([factor.norm == prime for factor, prime in zip(value, primes)])


def exchange(one, other):
    """Any exchange of two whole fours with unlike prime norms."""
    check_exchange(one, other)
    product = one * other
    factor = factor_ahead(product, other.norm.top)
    return factor, without_factor(product, factor)


def is_exchange(one, other, value):
    """Whether the value is an exchange of both."""
    check_exchange(one, other)
    if not is_tuple_of_wholes(value, 2):
        return False
    return one * other == value[0] * value[1] and value[0].norm == other.norm and value[1].norm == one.norm


def is_tuple_of_wholes(value, many):
    """Whether the value is a tuple of so many whole fours."""
    return isinstance(value, tuple) and len(value) == many and all([is_whole_four(four) for four in value])


def is_primes_of(value, number):
    """Whether the value is a tuple of primes of at most 10 ** 9 with a product."""
    if not isinstance(value, tuple) or not all([is_integer(part) and 1 < part <= MAX_NUMBER for part in value]):
        return False
    left = number
    for part in value:
        if left % part != 0:
            return False
        left = left // part
    return left == 1 and all([is_prime(part) for part in sorted(set(value))])


def check_whole(value):
    """Refuses what is no whole four."""
    if not is_whole_four(value):
        raise InvalidFour("no whole four")


def check_side(value):
    """Refuses what is no boolean."""
    if not isinstance(value, bool):
        raise InvalidOperation("ahead is no boolean")


def check_division(one, other, ahead):
    """Refuses what cannot be divided."""
    check_whole(one)
    check_whole(other)
    if not other:
        raise InvalidOperation("a division by 0")
    check_side(ahead)


def check_common(one, other, ahead):
    """Refuses what has no common factors that are told."""
    check_whole(one)
    check_whole(other)
    if not one and not other:
        raise InvalidOperation("both fours are 0")
    check_side(ahead)


def check_factors(four, primes):
    """Refuses a four that has no factors along some primes."""
    check_whole(four)
    if four.norm.top < 2:
        raise InvalidFour("the norm is less than 2")
    if not is_primes_of(primes, four.norm.top):
        raise InvalidOperation("no tuple of primes whose product is the norm")
    check_small(primes)


def check_exchange(one, other):
    """Refuses two fours that have no exchange."""
    check_prime_norm(one)
    check_prime_norm(other)
    if one.norm == other.norm:
        raise InvalidOperation("both norms are equal")
    check_small((one.norm.top, other.norm.top))


def check_prime_norm(value):
    """Refuses what is no whole four whose norm is a prime of at most 10 ** 9."""
    if not is_whole_four(value) or not is_prime(value.norm.top):
        raise InvalidFour("no whole four with a prime norm")


def check_small(primes):
    """Refuses primes that are greater than 1000."""
    if max(primes) > MAX_FACTOR:
        raise TooMany(MAX_FACTOR)
