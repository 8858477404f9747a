"""Algebras with told places."""

from signfours.base.numbers import is_prime
from signfours.four.fours import Algebra, product_of_primes
from signfours.place.signs import sign


def algebra_with(places):
    """An algebra with just these places, which are even in number; the product of the primes is small.

    One number is the product of the primes, above 0 exactly if 0 is no place. By Dirichlet some
    prime is, with a sign, as the other number has to be modulo 8 and modulo these primes, and at
    that prime the sign is right as soon as it is right elsewhere.
    """
    if not places:
        return Algebra(1, 1)
    free = product_of_primes(places)
    if 0 in places:
        free = -free
    size = 1
    while True:
        for number in (-size, size):
            if has_places(number, free, size, places):
                return Algebra(number, free)
        size = size + 1
        while not is_prime(size):
            size = size + 1


def has_places(number, free, size, places):
    """Whether the signs of the two numbers are -1 at just these places; `size` is 1 or a prime."""
    if not all([sign(number, free, place) == -1 for place in places]):
        return False
    return all([place in places or sign(number, free, place) == 1 for place in (0, 2, size) if place != 1])
