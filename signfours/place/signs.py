"""The signs of two numbers at the places, and local points that show them."""

from signfours.base.checks import is_integer, is_triple
from signfours.base.numbers import (
    check_number, check_prime, factors, is_prime, power_of, rest_sign, stripped,
)
from signfours.errors import InvalidNumber, TooMany
from signfours.place.local import solution_at, square_unit

MAX_LOCAL = 1000


def sign_at(a, b, place):
    """The sign of (a, b) at a place."""
    check_number(a)
    check_number(b)
    check_place(place)
    return sign(a, b, place)


def signed_places(a, b):
    """The ascending tuple of the places at which the sign of (a, b) is -1."""
    check_number(a)
    check_number(b)
    # At an odd prime that divides neither number the sign is 1.
    divisors = sorted(set([2, *factors(a), *factors(b)]))
    return tuple([place for place in [0, *divisors] if sign(a, b, place) == -1])


def is_square_at(number, place):
    """Whether the number is a square in the numbers of the place."""
    check_number(number)
    check_place(place)
    if place == 0:
        return number > 0
    many, unit = stripped(number, place)
    return many % 2 == 0 and square_unit(unit, place)


def local_point(a, b, prime):
    """Any local point of (a, b) at the prime, or None."""
    check_number(a)
    check_number(b)
    check_prime(prime)
    if prime > MAX_LOCAL:
        raise TooMany(MAX_LOCAL)
    if sign(a, b, prime) == -1:
        return None
    many = needed_power(a, b, prime)
    point = solution_at((a, b), prime, many)
    modulus = power_of(prime, many)
    return tuple([part % modulus for part in point])


def is_local_point(a, b, prime, value):
    """Whether the value is a local point of (a, b) at the prime."""
    check_number(a)
    check_number(b)
    check_prime(prime)
    if not is_triple(value) or all([part % prime == 0 for part in value]):
        return False
    x, y, z = value
    return (a * x * x + b * y * y - z * z) % power_of(prime, needed_power(a, b, prime)) == 0


def check_place(value):
    """Refuses what is neither 0 nor a prime of at most 10 ** 9."""
    if not is_prime(value) and not (is_integer(value) and value == 0):
        raise InvalidNumber(value)


def needed_power(a, b, prime):
    """The power of the prime modulo which a local point of (a, b) is told."""
    most = max(stripped(a, prime)[0], stripped(b, prime)[0])
    return 2 * most + 3 if prime == 2 else 2 * most + 1


def sign(a, b, place):
    """The sign of two numbers at a place."""
    if place == 0:
        return -1 if a < 0 and b < 0 else 1
    if place == 2:
        return sign_at_two(a, b)
    return sign_at_odd(a, b, place)


def sign_at_two(a, b):
    """The sign of two numbers at 2."""
    s, one = stripped(a, 2)
    t, other = stripped(b, 2)
    told = quarter(one) * quarter(other) + s * eighth(other) + t * eighth(one)
    return -1 if told % 2 == 1 else 1


def quarter(unit):
    """Odd exactly if the odd number leaves 3 by 4."""
    return (unit - 1) // 2


def eighth(unit):
    """Odd exactly if the odd number leaves 3 or 5 by 8."""
    return (unit * unit - 1) // 8


def sign_at_odd(a, b, prime):
    """The sign of two numbers at an odd prime."""
    s, one = stripped(a, prime)
    t, other = stripped(b, prime)
    told = 1
    if s * t % 2 == 1:
        told = told * rest_sign(-1, prime)
    if t % 2 == 1:
        told = told * rest_sign(one, prime)
    if s % 2 == 1:
        told = told * rest_sign(other, prime)
    return told
