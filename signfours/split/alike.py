"""Algebras that are alike, roots of numbers, and joined places."""

from math import isqrt

from signfours.base.checks import is_integer
from signfours.errors import InvalidNumber, TooMany
from signfours.four.fours import check_algebra, is_four_of, is_fours_of, product_of_primes
from signfours.place.signs import is_square_at
from signfours.split.placed import algebra_with
from signfours.split.roots import anti_root, root_pair

MAX_SIDE = 10 ** 4
MAX_COMMON = 10 ** 9
MAX_JOINED = 10 ** 8
# Common roots are found among the multiples of a product of places up to this size.
MOST_START = 10 ** 5


def are_alike(one, other):
    """Whether two algebras are alike."""
    check_sides(one, other)
    return one.places == other.places


def images(one, other):
    """Any images of the first algebra in the second one, or None."""
    check_sides(one, other)
    if one.places != other.places:
        return None
    first, second, shared = root_pair(other, one.a)
    return (first, anti_root(first, second, one.a, shared, one.b))


def is_images(one, other, value):
    """Whether the value is a pair of images of the first algebra in the second one."""
    check_sides(one, other)
    if not is_fours_of(other, value, 2, 2):
        return False
    first, second = value
    return is_root(first, one.a) and is_root(second, one.b) and first * second == -(second * first)


def root_paper(algebra, number):
    """Any root paper of the number in the algebra."""
    check_root(algebra, number)
    squares = square_places(algebra.places, number)
    if squares:
        return ("place", squares[0])
    return ("root", root_pair(algebra, number)[0])


def is_root_paper(algebra, number, value):
    """Whether the value is a root paper of the number in the algebra."""
    check_root(algebra, number)
    if not isinstance(value, tuple) or len(value) != 2:
        return False
    word, told = value
    if not isinstance(word, str):
        return False
    if word == "root":
        return is_four_of(algebra, told) and is_root(told, number)
    return word == "place" and is_integer(told) and told in square_places(algebra.places, number)


def has_root(algebra, number):
    """Whether the number has a root in the algebra."""
    check_root(algebra, number)
    return not square_places(algebra.places, number)


def common_root(one, other):
    """Any integer that is no square and has a root in both algebras."""
    check_sides(one, other)
    places = places_of_both(one, other)
    # What a prime divides just once is no square at it, and what is below 0 is none at 0.
    start = -1
    for place in places:
        if place > 0 and abs(start) * place <= MOST_START:
            start = start * place
    number = start
    while square_places(places, number):
        number = number + start
    return number


def is_common_root(one, other, value):
    """Whether the value is an integer that is no square and has a root in both algebras."""
    check_sides(one, other)
    if not is_integer(value) or value == 0 or abs(value) > MAX_COMMON or is_square(value):
        return False
    return not square_places(places_of_both(one, other), value)


def joined_places(one, other):
    """The ascending tuple of the places of just one of two algebras."""
    check_sides(one, other)
    return places_of_one(one, other)


def joined(one, other):
    """Any algebra with the joined places of two algebras."""
    check_sides(one, other)
    places = places_of_one(one, other)
    if product_of_primes(places) > MAX_JOINED:
        raise TooMany(MAX_JOINED)
    return algebra_with(places)


def check_sides(one, other):
    """Refuses what are no two algebras with small numbers."""
    check_algebra(one)
    check_algebra(other)
    check_side(one)
    check_side(other)


def check_root(algebra, number):
    """Refuses what is no algebra with small numbers and a number that is no square."""
    check_algebra(algebra)
    if not is_integer(number) or number == 0 or abs(number) > MAX_SIDE or is_square(number):
        raise InvalidNumber(number)
    check_side(algebra)


def check_side(algebra):
    """Refuses an algebra with greater numbers."""
    if max(abs(algebra.a), abs(algebra.b)) > MAX_SIDE:
        raise TooMany(MAX_SIDE)


def is_square(number):
    """Whether an integer is the square of an integer."""
    return number >= 0 and isqrt(number) * isqrt(number) == number


def is_root(four, number):
    """Whether the square of a four is a number."""
    return four * four == four.algebra.basis()[0].scaled(number)


def square_places(places, number):
    """The places among some at which the number is a square."""
    return [place for place in places if is_square_at(number, place)]


def places_of_both(one, other):
    """The list of the places of either algebra, ascending."""
    return sorted(set([*one.places, *other.places]))


def places_of_one(one, other):
    """The ascending tuple of the places of just one of two algebras."""
    both = places_of_both(one, other)
    return tuple([place for place in both if (place in one.places) != (place in other.places)])
