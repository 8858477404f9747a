"""Points of a x x + b y y = z z, and small points of a x x + b y y = c z z."""

from math import gcd, isqrt

from signfours.base.checks import is_integer, is_triple
from signfours.base.numbers import (
    check_number, free_part, power_modulo, prime_powers, rest_sign, root_modulo, square_free,
)
from signfours.errors import InvalidNumber, InvalidOperation, TooMany
from signfours.place.signs import signed_places

MAX_NUMBER = 1000000
MAX_SMALL = 200


def point_on(a, b):
    """Any point of (a, b), or None."""
    check_number(a)
    check_number(b)
    if max(abs(a), abs(b)) > MAX_NUMBER:
        raise TooMany(MAX_NUMBER)
    return None if signed_places(a, b) else solution(a, b)


def is_point(a, b, value):
    """Whether the value is a point of (a, b)."""
    check_number(a)
    check_number(b)
    return solves(a, b, 1, value)


def small_point(a, b, c):
    """Any small point of (a, b, c), or None."""
    check_small(a, b, c)
    if not (is_square_by(b * c, a) and is_square_by(a * c, b) and is_square_by(-a * b, c)):
        return None
    # A point of (a c, b c) has a multiple of c as its third number, for no square divides c.
    x, y, z = free_point(a * c, b * c)
    point = lowest_point(x, y, z // c)
    while point[2] * point[2] > a * b:
        point = nearer_point(a, b, c, point)
    return point


def is_small_point(a, b, c, value):
    """Whether the value is a small point of (a, b, c)."""
    check_small(a, b, c)
    return is_triple(value) and is_small(a, b, c, value)


def is_small(a, b, c, point):
    """Whether a triple of integers is a small point."""
    x, y, z = point
    return solves(a, b, c, point) and x * x <= b * c and y * y <= a * c and z * z <= a * b


def solves(a, b, c, value):
    """Whether the value is a triple of integers, not all 0, with a x x + b y y = c z z."""
    if not is_triple(value) or not any(value):
        return False
    x, y, z = value
    return a * x * x + b * y * y == c * z * z


def check_small(a, b, c):
    """Refuses what are no numbers for small points."""
    for number in (a, b, c):
        if not is_integer(number) or number < 1 or number > MAX_SMALL:
            raise InvalidNumber(number)
    if not all([square_free(number) == number for number in (a, b, c)]):
        raise InvalidOperation("a square divides one of the numbers")
    if gcd(a, b) > 1 or gcd(a, c) > 1 or gcd(b, c) > 1:
        raise InvalidOperation("two of the numbers have a common divisor")


def is_square_by(number, modulus):
    """Whether the number is a square modulo a square-free modulus without a common divisor."""
    return all([prime == 2 or rest_sign(number, prime) == 1 for prime in prime_powers(modulus)])


def nearer_point(a, b, c, point):
    """A point of a x x + b y y = c z z with a smaller z than a point for which z z is above a b.

    Mordell's step: the line through the point (x, y, z) in a direction (s, t, u) meets the curve
    once more. Let s y - t x be the step, c or, if c is even, half of it. Then the step divides the
    second point, and so does 2 for an odd c and an even a s + b t + c u. With u near to where the
    z of the second point is least, this z is less than before.
    """
    x, y, z = point[0], point[1], abs(point[2])
    step = c if c % 2 == 1 else c // 2
    s, t = crossing(x, y, step)
    linear = a * s * x + b * t * y
    u = (2 * linear + c * z) // (2 * c * z)
    if c % 2 == 1 and (a * s + b * t + c * u) % 2 == 1:
        u = u + 1 if linear > c * z * u else u - 1
    form = a * s * s + b * t * t - c * u * u
    twice = 2 * (linear - c * z * u)
    return lowest_point(x * form - twice * s, y * form - twice * t, z * form - twice * u)


def crossing(x, y, step):
    """Integers s and t with s y - t x equal to the step, for x and y without a common divisor."""
    near, far = (x, 0, 1), (y, 1, 0)
    # Each triple (rest, s, t) has s y + t x equal to the rest.
    while far[0] != 0:
        many = near[0] // far[0]
        near, far = far, (near[0] - many * far[0], near[1] - many * far[1], near[2] - many * far[2])
    return near[1] * near[0] * step, -near[2] * near[0] * step


def solution(a, b):
    """A point of two integers other than 0 of any size at which no place has the sign -1."""
    free, other = free_part(a), free_part(b)
    x, y, z = free_point(free, other)
    part, rest = isqrt(a // free), isqrt(b // other)
    return lowest_point(x * rest, y * part, z * part * rest)


def norm_solution(a, number):
    """Integers (z, x, y) with z z - a x x = number y y, y not 0, if there are any."""
    root = isqrt(max(a, 0))
    if root * root == a:
        return (root * (number + 1), number - 1, 2 * root)
    x, y, z = solution(a, number)
    return (z, x, y)


def lowest_point(x, y, z):
    """The point without a common divisor."""
    common = gcd(x, y, z)
    return (x // common, y // common, z // common)


def free_point(a, b):
    """A point of two square-free numbers without places.

    Lagrange's descent: some z z - a x x is b times an integer c of a size of at most 1.2 times
    the root of that of a. Both it and a point of (a, c) are norms of z + x times the root of a,
    so their product tells a point of (a, b).
    """
    if a == 1:
        return (1, 0, 1)
    if b == 1:
        return (0, 1, 1)
    if abs(a) > abs(b):
        y, x, z = free_point(b, a)
        return (x, y, z)
    far, near = least_pair(a, b)
    left = (far * far - a * near * near) // b
    free = free_part(left)
    part = isqrt(left // free)
    x, y, z = free_point(a, free)
    return lowest_point(z * near + x * far, free * part * y, z * far + a * x * near)


def least_pair(a, b):
    """The pair (z, x) other than (0, 0), b dividing z z - a x x, with the least z z + |a| x x."""
    one, other = (abs(b), 0), (root_by(a, b), 1)
    many = 1
    while many != 0:
        if pair_length(a, other) < pair_length(a, one):
            one, other = other, one
        length = pair_length(a, one)
        many = (2 * (one[0] * other[0] + abs(a) * one[1] * other[1]) + length) // (2 * length)
        other = (other[0] - many * one[0], other[1] - many * one[1])
    return one


def pair_length(a, pair):
    """z z + |a| x x."""
    return pair[0] * pair[0] + abs(a) * pair[1] * pair[1]


def root_by(number, modulus):
    """A root of the number modulo a square-free modulus, for each prime of which it has one."""
    root, reached = 0, 1
    for prime in prime_powers(modulus):
        missing = root_modulo(number, prime) - root
        root = root + reached * (missing * power_modulo(reached, prime - 2, prime) % prime)
        reached = reached * prime
    return root
