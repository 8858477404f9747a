"""Points of a x x + b y y = z z, and small points of a x x + b y y = c z z."""

from math import gcd, isqrt

from signfours.base.checks import is_integer, is_triple
from signfours.base.numbers import check_number, factors, power_modulo, root_modulo, square_free
from signfours.errors import InvalidNumber, InvalidOperation, TooMany
from signfours.place.signs import signed_places

MAX_NUMBER = 1000000
MAX_SMALL = 200


def point_on(a, b):
    """Any point of (a, b), or None."""
    check_number(a)
    check_number(b)
    if max(abs(a), abs(b)) > MAX_NUMBER:
        raise TooMany(MAX_NUMBER)
    if signed_places(a, b):
        return None
    own, other = square_part(a), square_part(b)
    x, y, z = free_point(square_free(a), square_free(b))
    return lowest_point(x * other, y * own, z * own * other)


def is_point(a, b, value):
    """Whether the value is a point of (a, b)."""
    check_number(a)
    check_number(b)
    return solves(a, b, 1, value)


def small_point(a, b, c):
    """Any small point of (a, b, c), or None."""
    check_small(a, b, c)
    for x in range(isqrt(b * c) + 1):
        for y in range(isqrt(a * c) + 1):
            z = isqrt((a * x * x + b * y * y) // c)
            if is_small(a, b, c, (x, y, z)):
                return (x, y, z)
    return None


def is_small_point(a, b, c, value):
    """Whether the value is a small point of (a, b, c)."""
    check_small(a, b, c)
    return is_triple(value) and is_small(a, b, c, value)


def is_small(a, b, c, point):
    """Whether a triple of integers is a small point."""
    x, y, z = point
    return solves(a, b, c, point) and x * x <= b * c and y * y <= a * c and z * z <= a * b


def solves(a, b, c, value):
    """Whether the value is a triple of integers, not all 0, with a x x + b y y = c z z."""
    if not is_triple(value) or not any(value):
        return False
    x, y, z = value
    return a * x * x + b * y * y == c * z * z


def check_small(a, b, c):
    """Refuses what are no numbers for small points."""
    for number in (a, b, c):
        if not is_integer(number) or number < 1 or number > MAX_SMALL:
            raise InvalidNumber(number)
    if not all([square_free(number) == number for number in (a, b, c)]):
        raise InvalidOperation("a square divides one of the numbers")
    if gcd(a, b) > 1 or gcd(a, c) > 1 or gcd(b, c) > 1:
        raise InvalidOperation("two of the numbers have a common divisor")


def square_part(number):
    """The integer above 0 whose square makes the number out of its square-free part."""
    return isqrt(number // square_free(number))


def lowest_point(x, y, z):
    """The point without a common divisor."""
    common = gcd(x, y, z)
    return (x // common, y // common, z // common)


def free_point(a, b):
    """A point of two square-free numbers without places.

    Lagrange's descent: some z z - a x x is b times an integer c of a size of at most 1.2 times
    the root of that of a. Both it and a point of (a, c) are norms of z + x times the root of a,
    so their product tells a point of (a, b).
    """
    if a == 1:
        return (1, 0, 1)
    if b == 1:
        return (0, 1, 1)
    if abs(a) > abs(b):
        y, x, z = free_point(b, a)
        return (x, y, z)
    far, near = least_pair(a, b)
    left = (far * far - a * near * near) // b
    free, part = square_free(left), square_part(left)
    x, y, z = free_point(a, free)
    return lowest_point(z * near + x * far, free * part * y, z * far + a * x * near)


def least_pair(a, b):
    """The pair (z, x) other than (0, 0), b dividing z z - a x x, with the least z z + |a| x x."""
    one, other = (abs(b), 0), (root_by(a, b), 1)
    many = 1
    while many != 0:
        if pair_length(a, other) < pair_length(a, one):
            one, other = other, one
        length = pair_length(a, one)
        many = (2 * (one[0] * other[0] + abs(a) * one[1] * other[1]) + length) // (2 * length)
        other = (other[0] - many * one[0], other[1] - many * one[1])
    return one


def pair_length(a, pair):
    """z z + |a| x x."""
    return pair[0] * pair[0] + abs(a) * pair[1] * pair[1]


def root_by(number, modulus):
    """A root of the number modulo a square-free modulus, for each prime of which it has one."""
    root, reached = 0, 1
    for prime in factors(modulus):
        missing = root_modulo(number, prime) - root
        root = root + reached * (missing * power_modulo(reached, prime - 2, prime) % prime)
        reached = reached * prime
    return root
