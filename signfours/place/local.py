"""Solutions of a x x + b y y = z z modulo powers of a prime."""

from signfours.base.numbers import power_modulo, power_of, rest_sign, root_modulo, stripped


def square_unit(unit, prime):
    """Whether an integer that the prime does not divide is a square in the numbers of the prime."""
    if prime == 2:
        return unit % 8 == 1
    return rest_sign(unit, prime) == 1


def unit_root(unit, prime, many):
    """A root of such a square, exact modulo the prime to the power `many`."""
    if prime == 2:
        return root_at_two(unit, many)
    root = root_modulo(unit, prime)
    half = power_modulo(2 * root, prime - 2, prime)
    modulus = prime
    for _ in range(many - 1):
        modulus = modulus * prime
        root = (root - (root * root - unit) * half) % modulus
    return root


def root_at_two(unit, many):
    """A root of an integer that leaves 1 by 8, exact modulo 2 to the power `many`."""
    root, modulus = 1, 8
    for _ in range(many - 3):
        if (root * root - unit) % (2 * modulus) != 0:
            root = root + modulus // 2
        modulus = 2 * modulus
    return root


def solution_at(numbers, prime, many):
    """A solution for two numbers of the sign 1, not all of it multiples of the prime.

    It is exact modulo the prime to the power `many`.
    """
    split = [stripped(number, prime) for number in numbers]
    halves = [often // 2 for often, _ in split]
    most = max(halves)
    coefficients = [power_of(prime, often % 2) * unit for often, unit in split] + [-1]
    bare = bare_solution(coefficients, prime, many)
    lifts = [most - half for half in halves] + [most]
    # This takes the form to `2 * most` more factors; at most as many are taken out below.
    point = [bare[at] * power_of(prime, lifts[at]) for at in range(3)]
    while all([entry % prime == 0 for entry in point]):
        point = [entry // prime for entry in point]
    return point


def bare_solution(coefficients, prime, many):
    """A solution for three coefficients that the square of the prime does not divide.

    Of any solution two unknowns can be exchanged for rests by the prime (by 4 for the prime 2),
    one of them 1, and the third one for a root. At odd primes a root for z or, if both numbers
    are multiples of the prime, for x is enough.
    """
    for at in (2, 0, 1):
        for pair in trial_pairs(prime):
            found = completed(coefficients, at, pair, prime, many)
            if found is not None:
                return found
    return None


def trial_pairs(prime):
    """The pairs for two unknowns that are tried."""
    return [pair for rest in range(prime + 2) for pair in ((1, rest), (rest, 1))]


def completed(coefficients, at, pair, prime, many):
    """The solution with two told unknowns and a root for the one at an index, or None."""
    one, other = (at + 1) % 3, (at + 2) % 3
    worth = -coefficients[one] * pair[0] * pair[0] - coefficients[other] * pair[1] * pair[1]
    if worth == 0:
        return None
    often, unit = stripped(worth, prime)
    own, base = stripped(coefficients[at], prime)
    if often != own or not square_unit(unit * base, prime):
        return None
    point = [0, 0, 0]
    point[at] = unit_root(unit * base, prime, many)
    point[one] = base * pair[0]
    point[other] = base * pair[1]
    return point
