"""The module of primes, factors, square-free parts and residue signs."""

import random
import unittest

from signfours.base import numbers
from signfours.base.numbers import factors, is_prime, residue_sign, square_free
from tests.support import Case, NO_INTEGERS, NO_NUMBERS, NO_PRIMES, SIXTY, TOO_LONG, is_prime_by_trial, primes_to

GREAT_PRIME = 999999937
GREAT = (
    10 ** 9, 10 ** 9 - 1, GREAT_PRIME, 31607 ** 2, 2 ** 29, 3 ** 18, 5 ** 12, 31607 * 31627, 997 ** 3,
    2 * 3 * 5 * 7 * 11 * 13 * 17 * 19 * 23, 999999929, 2 * 499999993, 4 * 249999991, 720720, 999950884,
)


class Primes(Case):

    def test_small(self):
        for number in range(-50, 3000):
            self.assertIs(is_prime(number), is_prime_by_trial(number), number)

    def test_great(self):
        for number in (31607, 31627, 999983, 499999993, 999999893, 999999929, GREAT_PRIME):
            self.assertIs(is_prime(number), True)
        for number in (31607 ** 2, 31607 * 31627, 10 ** 9, 10 ** 9 - 1, 3 * 333333313, 561, 25326001):
            self.assertIs(is_prime(number), False)

    def test_bound(self):
        self.assertEqual(numbers.MAX_NUMBER, 10 ** 9)
        for number in (10 ** 9 + 7, 10 ** 9 + 9, 2 ** 61 - 1, -7, SIXTY):
            self.assertIs(is_prime(number), False)

    def test_every_value(self):
        for value in NO_INTEGERS + TOO_LONG + (2.0, 10 ** 200):
            self.assertIs(is_prime(value), False)


class Factors(Case):

    def judge(self, number):
        found = factors(number)
        self.assertIs(type(found), dict)
        self.assertEqual(list(found), sorted(found))
        product = 1
        for prime, many in found.items():
            self.assertTrue(is_prime_by_trial(prime), (number, prime))
            self.assertGreater(many, 0)
            product *= prime ** many
        self.assertEqual(product, abs(number))

    def test_small(self):
        for number in range(1, 1500):
            self.judge(number)
            self.judge(-number)
        self.assertEqual([factors(1), factors(-1)], [{}, {}])

    def test_great(self):
        draw = random.Random(5)
        for number in GREAT + tuple(draw.randint(10 ** 8, 10 ** 9) for _ in range(20)):
            self.judge(number)
            self.judge(-number)
        self.assertEqual(factors(31607 ** 2), {31607: 2})
        self.assertEqual(factors(-(10 ** 9)), {2: 9, 5: 9})
        self.assertEqual(factors(GREAT_PRIME), {GREAT_PRIME: 1})

    def test_refused(self):
        for value in NO_NUMBERS:
            self.no_number(value, factors, value)

    def test_no_shared_state(self):
        factors(12).clear()
        self.assertEqual(factors(12), {2: 2, 3: 1})


class SquareFree(Case):

    def judge(self, number):
        free = square_free(number)
        self.assertEqual(free > 0, number > 0)
        self.assertEqual(number % free, 0)
        root = round((number // free) ** 0.5)
        self.assertEqual(root * root * free, number)
        self.assertFalse([prime for prime in primes_to(int(abs(free) ** 0.5)) if free % (prime * prime) == 0])

    def test_small(self):
        for number in range(1, 800):
            self.judge(number)
            self.judge(-number)
        self.assertEqual([square_free(number) for number in (1, -1, 4, -4, 8, 12, -18, 360)], [1, -1, 1, -1, 2, 3, -2, 10])

    def test_great(self):
        self.assertEqual(square_free(31607 ** 2), 1)
        self.assertEqual(square_free(-(31607 ** 2)), -1)
        self.assertEqual(square_free(2 ** 29), 2)
        self.assertEqual(square_free(10 ** 9), 10)
        self.assertEqual(square_free(-GREAT_PRIME), -GREAT_PRIME)
        self.assertEqual(square_free(997 ** 3), 997)

    def test_refused(self):
        for value in NO_NUMBERS:
            self.no_number(value, square_free, value)


class ResidueSigns(Case):

    def test_odd_primes(self):
        for prime in primes_to(80)[1:]:
            squares = {root * root % prime for root in range(1, prime)}
            for number in range(-2 * prime, 2 * prime + 1):
                told = 0 if number % prime == 0 else 1 if number % prime in squares else -1
                self.same(residue_sign(number, prime), told)

    def test_two(self):
        told = {1: 1, 3: -1, 5: -1, 7: 1}
        for number in range(-40, 41):
            self.same(residue_sign(number, 2), told.get(number % 8, 0))

    def test_great(self):
        draw = random.Random(7)
        for prime in (31607, 999983, GREAT_PRIME, 999999929):
            lack = next(number for number in range(2, 100) if residue_sign(number, prime) == -1)
            for _ in range(20):
                square = draw.randint(1, prime - 1) ** 2 % prime
                self.assertEqual(residue_sign(square, prime), 1)
                self.assertEqual(residue_sign(square - prime, prime), 1)
                self.assertEqual(residue_sign(square * lack % prime, prime), -1)
            self.assertEqual([residue_sign(prime, prime), residue_sign(-prime, prime), residue_sign(0, prime)], [0, 0, 0])
        self.assertEqual(sum(residue_sign(number, 10007) for number in range(10007)), 0)
        self.assertEqual([residue_sign(10 ** 9, 2), residue_sign(-(10 ** 9), 3), residue_sign(10 ** 9, 7)], [0, -1, -1])

    def test_refused(self):
        for value in NO_NUMBERS:
            if value == 0 and type(value) is int:
                self.same(residue_sign(value, 7), 0)
                continue
            self.no_number(value, residue_sign, value, 7)
            self.no_number(value, residue_sign, value, 4)
        for value in NO_PRIMES:
            self.no_number(value, residue_sign, 3, value)
            self.no_number(value, residue_sign, 0, value)
        self.no_number("a", residue_sign, "a", 0)
        self.no_number(False, residue_sign, False, True)


if __name__ == "__main__":
    unittest.main()
