"""Roots of numbers in an algebra, told by a number that two algebras share."""

from signfours.base.numbers import is_prime, prime_powers
from signfours.four.fours import made_four
from signfours.place.signs import sign
from signfours.split.points import norm_solution

CLASSES_AT_TWO = (1, 3, 5, 7)


def root_pair(algebra, number):
    """Two fours of an algebra, the first one a root of the number, with opposite products.

    The second one is a root of an integer, which is told as a third member. The number is a
    square at no place of the algebra, or the algebra has no places.
    """
    shared = shared_number(algebra.a, number, algebra.places)
    i, j = algebra.basis()[1:3]
    # A four (z + x i) j has opposite products with i, and its square is (z z - a x x) b. With the
    # second four in the place of i, and i in that of j, the same leads to a root of the number.
    second = anti_root(i, j, algebra.a, algebra.b, shared)
    return anti_root(second, i, shared, algebra.a, number), second, shared


def anti_root(one, other, square, own, number):
    """A root of the number that has opposite products with a four.

    The fours `one` and `other` have opposite products and the squares `square` and `own`.
    """
    z, x, y = norm_solution(square, own * number)
    unit = one.algebra.basis()[0]
    made = (unit.scaled(z) + one.scaled(x)) * other
    return made_four(made.algebra, made.entries, made.bottom * y * own)


def shared_number(one, other, places):
    """An integer t for which (one, t) and (other, t) have just these places."""
    if not places:
        return 1
    primes = sorted(set([2, *prime_powers(one), *prime_powers(other), *[place for place in places if place > 0]]))
    start = 1
    for prime in primes:
        if not can_share(one, other, prime, places):
            start = start * prime
    # Whether the number is right at these primes is told by the rests of one prime more, and the
    # number is right at that one as soon as it is elsewhere; by Dirichlet there is such a prime.
    size = 1
    while True:
        for number in (-size * start, size * start):
            if is_shared(one, other, number, [0, *primes], places):
                return number
        size = size + 1
        while not is_prime(size) or size in primes:
            size = size + 1


def can_share(one, other, prime, places):
    """Whether some number that the prime does not divide is right at the prime."""
    return any([is_shared(one, other, unit, [prime], places) for unit in unit_classes(prime)])


def unit_classes(prime):
    """Integers that the prime does not divide, one of each class of squares in its numbers."""
    if prime == 2:
        return CLASSES_AT_TWO
    unit = 2
    while sign(unit, prime, prime) == 1:
        unit = unit + 1
    return (1, unit)


def is_shared(one, other, number, tried, places):
    """Whether the signs of both with the number are -1 at just those tried places that are told."""
    for place in tried:
        told = -1 if place in places else 1
        if sign(one, number, place) != told or sign(other, number, place) != told:
            return False
    return True
