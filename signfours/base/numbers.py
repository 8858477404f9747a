"""Primes, factors, square-free parts, residue signs and roots modulo primes."""

from signfours.base.checks import is_integer
from signfours.errors import InvalidNumber

MAX_NUMBER = 10 ** 9


def is_prime(value):
    """Whether the value is a prime of at most 10 ** 9."""
    if not is_integer(value) or value < 2 or value > MAX_NUMBER:
        return False
    divisor = 2
    while divisor * divisor <= value:
        if value % divisor == 0:
            return False
        divisor = next_divisor(divisor)
    return True


def factors(number):
    """The dict from the primes that divide the number to how often each one does."""
    check_number(number)
    return prime_powers(number)


def prime_powers(number):
    """The factors of an integer other than 0 of any size; the second greatest prime tells the time."""
    rest = abs(number)
    found = {}
    divisor = 2
    while divisor * divisor <= rest:
        if rest % divisor == 0:
            found[divisor], rest = stripped(rest, divisor)
        divisor = next_divisor(divisor)
    if rest > 1:
        found[rest] = 1
    return found


def square_free(number):
    """The number without its square divisors, with its sign."""
    check_number(number)
    return free_part(number)


def free_part(number):
    """The square-free part of an integer other than 0 of any size."""
    free = 1
    for prime, many in prime_powers(number).items():
        if many % 2 == 1:
            free = free * prime
    return free if number > 0 else -free


def residue_sign(number, prime):
    """0, 1 or -1: the prime divides the number, or it leaves the rest of a square or not."""
    if not is_integer(number) or abs(number) > MAX_NUMBER:
        raise InvalidNumber(number)
    check_prime(prime)
    return rest_sign(number, prime)


def check_number(value):
    """Refuses what is no number: an integer other than 0 of a size of at most 10 ** 9."""
    if not is_integer(value) or value == 0 or abs(value) > MAX_NUMBER:
        raise InvalidNumber(value)


def check_prime(value):
    """Refuses what is no prime of at most 10 ** 9."""
    if not is_prime(value):
        raise InvalidNumber(value)


def next_divisor(divisor):
    """The next divisor to try: 2, then the odd numbers."""
    return 3 if divisor == 2 else divisor + 2


def stripped(number, prime):
    """How often the prime divides a number other than 0, and what is left of it."""
    many = 0
    while number % prime == 0:
        many = many + 1
        number = number // prime
    return many, number


def rest_sign(number, prime):
    """The residue sign of an integer of any size."""
    if number % prime == 0:
        return 0
    if prime == 2:
        return 1 if number % 8 in (1, 7) else -1
    return 1 if power_modulo(number, (prime - 1) // 2, prime) == 1 else -1


def power_of(number, many):
    """The number multiplied by itself so many times."""
    made = 1
    for _ in range(many):
        made = made * number
    return made


def power_modulo(number, many, modulus):
    """The rest that a power of the number leaves."""
    made = 1 % modulus
    square = number % modulus
    while many > 0:
        if many % 2 == 1:
            made = made * square % modulus
        square = square * square % modulus
        many = many // 2
    return made


def root_modulo(number, prime):
    """A root modulo the prime of a number that is a square modulo it."""
    if prime == 2:
        return number % 2
    twos, odd = stripped(prime - 1, 2)
    turn = power_modulo(least_nonsquare(prime), odd, prime)
    root = power_modulo(number, (odd + 1) // 2, prime)
    # Shanks: root * root is always number * fault, and fault has ever fewer twos in its order.
    fault = power_modulo(number, odd, prime)
    while fault > 1:
        left = halvings(fault, prime)
        for _ in range(twos - left - 1):
            turn = turn * turn % prime
        root = root * turn % prime
        turn = turn * turn % prime
        fault = fault * turn % prime
        twos = left
    return root


def least_nonsquare(prime):
    """The least number above 0 that is no square modulo an odd prime."""
    number = 2
    while rest_sign(number, prime) != -1:
        number = number + 1
    return number


def halvings(number, prime):
    """How often the number must be squared to leave 1."""
    many = 0
    while number != 1:
        number = number * number % prime
        many = many + 1
    return many
