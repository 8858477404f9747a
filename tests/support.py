"""What the tests share: values of every kind, and how errors are asked for."""

import unittest

from signfours.base.ratios import Ratio
from signfours.desk.desk import Desk
from signfours.errors import InvalidLattice, InvalidNumber, Refused, TooMany
from signfours.four.fours import Algebra, Four
from signfours.ideal.classes import Book
from signfours.order.lattices import Lattice
from signfours.whole.webs import Web

HAMILTON, ELEVEN = Algebra(-1, -1), Algebra(-1, -11)
SPLIT, TEN = Algebra(1, 1), Algebra(2, 5)
ALGEBRAS = (HAMILTON, ELEVEN, SPLIT, TEN, Algebra(3, -7), Algebra(-4, 6), Algebra(999999937, -10 ** 9))

SIXTY = 10 ** 60 - 1
LONG = 10 ** 60

# Values that are no integers; True and False are none either.
NO_INTEGERS = (
    None, True, False, "", "1", "a", "0" * 4000, (), (1,), (1, 2, 3), ((1, 2), (3,)), [], [1], [1, 2, 3],
    {}, {1: 2}, {"a": [None, (True,)]}, Ratio(0), Ratio(2), Ratio(1, 2), HAMILTON,
    Four(HAMILTON, (0, 0, 0, 0)), Four(HAMILTON, (2, 0, 0, 0)),
)
TOO_LONG = (LONG, -LONG, 10 ** 99)
# Values that are no numbers: integers other than 0 of a size of at most 10 ** 9.
NO_NUMBERS = NO_INTEGERS + TOO_LONG + (0, 10 ** 9 + 1, -10 ** 9 - 1, SIXTY)
NO_PRIMES = NO_INTEGERS + TOO_LONG + (0, 1, -1, -2, 4, 9, 561, 1000, 31607 ** 2, 10 ** 9, 10 ** 9 + 7)
NO_RATIOS = tuple(value for value in NO_INTEGERS if not isinstance(value, Ratio)) + TOO_LONG
NO_FOURS = tuple(value for value in NO_INTEGERS if not isinstance(value, Four)) + (0, 1) + TOO_LONG
NO_ALGEBRAS = tuple(value for value in NO_INTEGERS if not isinstance(value, Algebra)) + (0, 1) + TOO_LONG

ONE, I, J, K = HAMILTON.basis()
PLAIN = Lattice(HAMILTON, (ONE, I, J, K))
HALF = Four(HAMILTON, (1, 1, 1, 1), 2)
# The greatest orders of the examples.
HURWITZ = Lattice(HAMILTON, (ONE, I, J, K, HALF))
GREAT = Lattice(ELEVEN, ELEVEN.basis()[:2] + (Four(ELEVEN, (1, 0, 1, 0), 2), Four(ELEVEN, (0, 1, 0, 1), 2)))
# Values of many kinds, with objects of the package among them.
VALUES = NO_INTEGERS + TOO_LONG + (
    0, 1, -1, 2, HALF, ELEVEN, PLAIN, HURWITZ, GREAT, Book(GREAT), (PLAIN,), (HALF, HALF), (ONE, I, J, K), [PLAIN],
    Web(5, 3), Desk(HAMILTON), (1, 1, 6), (4, 4, 3, 4, 4, 0),
)
NO_LATTICES = tuple(value for value in VALUES if not isinstance(value, Lattice))


def is_prime_by_trial(number):
    return number > 1 and all(number % divisor for divisor in range(2, int(number ** 0.5) + 1))


def primes_to(most):
    return [number for number in range(2, most + 1) if is_prime_by_trial(number)]


def often(number, prime):
    """How often the prime divides the number."""
    return 0 if number % prime else 1 + often(number // prime, prime)


def needed_power(a, b, prime):
    """The power of the prime of [1.5]."""
    most = max(often(a, prime), often(b, prime))
    return prime ** (2 * most + 3 if prime == 2 else 2 * most + 1)


def random_four(draw, algebra, size, bottom=1):
    """A drawn four with a norm other than 0."""
    while True:
        entries = tuple(draw.randint(-size, size) for _ in range(4))
        four = Four(algebra, entries, draw.randint(1, bottom))
        if four.norm:
            return four


def random_lattice(draw, algebra, size, bottom=1, many=4):
    """A drawn lattice."""
    while True:
        try:
            return Lattice(algebra, tuple(random_four(draw, algebra, size, bottom) for _ in range(many)))
        except InvalidLattice:
            pass


def led(order, four):
    """The order of the fours z * x / z."""
    return order.ahead(four).by(four.inverse())


class Case(unittest.TestCase):
    """A test case with questions about errors."""

    def error_of(self, error, function, *arguments):
        with self.assertRaises(error) as caught:
            function(*arguments)
        self.assertIs(type(caught.exception), error)
        return caught.exception

    def no_number(self, given, function, *arguments):
        caught = self.error_of(InvalidNumber, function, *arguments)
        self.same(caught.given, given)

    def too_many(self, most, function, *arguments):
        self.assertEqual(self.error_of(TooMany, function, *arguments).most, most)

    def refused(self, reason, function, *arguments):
        self.assertEqual(self.error_of(Refused, function, *arguments).reason, reason)

    def same(self, one, other):
        """Equal, and of one kind: True is not 1."""
        self.assertIs(type(one), type(other))
        self.assertEqual(one, other)
