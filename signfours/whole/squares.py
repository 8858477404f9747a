"""Sums of four, three and two squares, and how many whole fours have a norm."""

from math import isqrt

from signfours.base.checks import is_passed, is_triple
from signfours.base.numbers import prime_powers, stripped
from signfours.errors import InvalidNumber, TooMany

MAX_SQUARED = 10 ** 8
MAX_FOUR_SQUARES = 200


def count_four_squares(number):
    """How many tuples of four integers have squares that add up to the number."""
    check_squared(number)
    twos, odd = stripped(number, 2)
    return 8 * sum_of_divisors(odd) * (1 if twos == 0 else 3)


def count_whole(number):
    """How many whole fours have the number as their norm."""
    check_squared(number)
    return 24 * sum_of_divisors(stripped(number, 2)[1])


def four_squares(number):
    """The ascending tuple of all tuples of four falling integers from 0 whose squares add up to the number."""
    check_at_least_one(number)
    if number > MAX_FOUR_SQUARES:
        raise TooMany(MAX_FOUR_SQUARES)
    found = []
    for a in range(isqrt(number) + 1):
        for b in range(min(a, isqrt(number - a * a)) + 1):
            left = number - a * a - b * b
            found = found + [(a, b, c, d) for c, d in two_squares_of(left) if c <= b]
    return tuple(found)


def three_squares(number):
    """Any three integers whose squares add up to the number, or None."""
    check_squared(number)
    scale, left = 1, number
    while left % 4 == 0:
        scale, left = 2 * scale, left // 4
    if left % 8 == 7:
        return None
    # What is left of the square of a great integer is small, so it is soon found to be two squares or not.
    for last in range(isqrt(left), -1, -1):
        pair = two_squares_or_none(left - last * last)
        if pair is not None:
            return scale * pair[0], scale * pair[1], scale * last
    return None


def two_squares(number):
    """Any two integers whose squares add up to the number, or None."""
    check_squared(number)
    return two_squares_or_none(number)


def is_three_squares(number, value):
    """Whether the value is a tuple of three integers whose squares add up to the number."""
    check_at_least_one(number)
    return is_triple(value) and sum([part * part for part in value]) == number


def two_squares_or_none(number):
    """Two integers from 0 whose squares add up to an integer of at least 0, or None."""
    if number == 0:
        return 0, 0
    # Most numbers are none, and their primes say it soonest.
    if any([prime % 4 == 3 and many % 2 == 1 for prime, many in prime_powers(number).items()]):
        return None
    for one in range(isqrt(number), -1, -1):
        other = isqrt(number - one * one)
        if one * one + other * other == number:
            return one, other
    return None


def two_squares_of(number):
    """The ascending list of all pairs (c, d) with c at least d, from 0, whose squares add up to the number."""
    found = []
    for one in range(isqrt(number) + 1):
        other = isqrt(number - one * one)
        if other <= one and one * one + other * other == number:
            found.append((one, other))
    return found


def sum_of_divisors(number):
    """The sum of all divisors of an integer of at least 1."""
    made = 1
    for prime, many in prime_powers(number).items():
        part = 1
        for _ in range(many):
            part = part * prime + 1
        made = made * part
    return made


def check_at_least_one(value):
    """Refuses what is no integer of at least 1."""
    if not is_passed(value) or value < 1:
        raise InvalidNumber(value)


def check_squared(value):
    """Refuses what is no integer of at least 1, and then those that are greater than 10 ** 8."""
    check_at_least_one(value)
    if value > MAX_SQUARED:
        raise TooMany(MAX_SQUARED)
