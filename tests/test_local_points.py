"""Local points: [1.5]."""

import random
import unittest

from signfours.errors import TooMany
from signfours.place.signs import is_local_point, local_point, sign_at
from tests.support import Case, NO_INTEGERS, NO_NUMBERS, NO_PRIMES, SIXTY, needed_power, primes_to


def is_point_by_rule(a, b, prime, point):
    x, y, z = point
    power = needed_power(a, b, prime)
    return any(part % prime for part in point) and (a * x * x + b * y * y - z * z) % power == 0


class LocalPoints(Case):

    def judge(self, a, b, prime):
        point = local_point(a, b, prime)
        if sign_at(a, b, prime) == -1:
            self.assertIsNone(point, (a, b, prime))
            return
        self.assertIs(type(point), tuple)
        self.assertEqual([type(part) for part in point], [int] * 3)
        self.assertTrue(all(abs(part) <= SIXTY for part in point))
        self.assertTrue(is_point_by_rule(a, b, prime, point), (a, b, prime, point))
        self.assertIs(is_local_point(a, b, prime, point), True)
        self.assertEqual(point, local_point(a, b, prime))

    def test_small_numbers(self):
        for prime in (2, 3, 5):
            for a in range(-20, 21):
                for b in range(-20, 21):
                    if a != 0 and b != 0:
                        self.judge(a, b, prime)

    def test_powers_of_the_prime(self):
        for prime in (2, 3, 5, 7, 29, 991):
            powers = [prime ** many for many in range(30) if prime ** many <= 10 ** 9]
            for one in powers:
                for other in powers:
                    for a, b in ((one, other), (-one, other), (one, -other), (-one, -other)):
                        self.judge(a, b, prime)
                    if 6 * max(one, other) <= 10 ** 9:
                        self.judge(2 * one, 3 * other, prime)
                        self.judge(-3 * one, -5 * other, prime)

    def test_greater_primes(self):
        draw = random.Random(17)
        for prime in primes_to(60) + [311, 577, 967, 971, 977, 983, 991, 997]:
            for _ in range(15):
                a = draw.choice((-1, 1)) * draw.randint(1, 10 ** 6)
                b = draw.choice((-1, 1)) * draw.randint(1, 10 ** 6)
                for own, other in ((1, 1), (prime, 1), (1, prime), (prime, prime)):
                    self.judge(a * own, b * other, prime)

    def test_bound(self):
        self.assertIsNotNone(local_point(4, 997, 997))
        self.assertIsNotNone(local_point(-997, 997, 997))
        for prime in (1009, 1013, 999983, 999999937):
            self.assertEqual(self.error_of(TooMany, local_point, 1, 1, prime).most, 1000)
            self.assertEqual(self.error_of(TooMany, local_point, prime, -1, prime).most, 1000)
            self.no_number(0, local_point, 0, 1, prime)
            self.no_number("b", local_point, 1, "b", prime)

    def test_refused(self):
        for function, rest in ((local_point, ()), (is_local_point, ((1, 1, 1),)), (is_local_point, ("x",))):
            for value in NO_NUMBERS:
                self.no_number(value, function, value, 0, 4, *rest)
                self.no_number(value, function, 3, value, 1009, *rest)
                self.no_number(value, function, 3, value, None, *rest)
            for value in NO_PRIMES:
                self.no_number(value, function, 3, 5, value, *rest)


class JudgedLocalPoints(Case):

    def test_all_triples_of_a_small_power(self):
        for a, b, prime in ((1, 1, 3), (-1, -1, 3), (2, -1, 3), (3, 1, 3), (1, 2, 2), (-1, -1, 2), (3, 5, 2)):
            size = min(needed_power(a, b, prime), 27)
            for x in range(-size // 2, size):
                for y in range(-2, size):
                    for z in range(0, size):
                        told = is_point_by_rule(a, b, prime, (x, y, z))
                        self.assertIs(is_local_point(a, b, prime, (x, y, z)), told)

    def test_the_whole_power_counts(self):
        # 3 divides 9 * 1 + 1 - 1 - 0 = 9 only twice, and 3 to the power 5 is asked.
        self.assertIs(is_local_point(9, 1, 3, (1, 1, 1)), False)
        self.assertIs(is_local_point(9, 1, 3, (0, 1, 1)), True)
        self.assertIs(is_local_point(9, 1, 3, (0, 1, 1 + 243)), True)
        self.assertIs(is_local_point(9, 1, 3, (0, 1, 1 + 81)), False)
        self.assertIs(is_local_point(1, 9, 3, (1, 0, 1 + 81)), False)
        self.assertIs(is_local_point(1, 1, 2, (1, 0, 1 + 4)), True)
        self.assertIs(is_local_point(1, 1, 2, (1, 0, 3)), True)
        self.assertIs(is_local_point(1, 17, 2, (4, 1, 1)), True)
        self.assertIs(is_local_point(1, 13, 2, (2, 1, 1)), True)
        self.assertIs(is_local_point(1, 5, 2, (2, 1, 1)), True)
        self.assertIs(is_local_point(1, 9, 2, (0, 1, 1)), True)
        self.assertIs(is_local_point(1, 5, 2, (0, 1, 1)), False)
        self.assertIs(is_local_point(2, 17, 2, (0, 1, 1)), False)
        self.assertIs(is_local_point(2, 33, 2, (0, 1, 1)), True)

    def test_common_divisor(self):
        for prime in (2, 3, 5, 997):
            self.assertIs(is_local_point(1, 3, prime, (0, 0, 0)), False)
            self.assertIs(is_local_point(1, 3, prime, (prime, 0, prime)), False)
            self.assertIs(is_local_point(1, 3, prime, (1, 0, 1)), True)
            self.assertIs(is_local_point(1, 3, prime, (-1, prime ** 9, 1 + prime ** 9)), True)

    def test_great_primes_and_long_integers(self):
        for prime in (1009, 999983, 999999937):
            self.assertIs(is_local_point(4, -7, prime, (1, 0, 2)), True)
            self.assertIs(is_local_point(4, -7, prime, (1, 0, 3)), False)
            self.assertIs(is_local_point(4, -7, prime, (prime, 0, 2 * prime)), False)
        self.assertIs(is_local_point(4, -7, 5, (1 + 5 ** 150, 0, 2 + 5 ** 200)), True)
        self.assertIs(is_local_point(4, -7, 5, (5 ** 150, 0, 2 * 5 ** 150)), False)
        self.assertIs(is_local_point(prime, -7, prime, (prime ** 2, 0, 0)), False)

    def test_every_value(self):
        for prime in (2, 3, 997, 999983):
            for value in NO_INTEGERS + (1, 0, 10 ** 99, "(1, 1, 1)"):
                if value not in ((1, 2, 3),):
                    self.assertIs(is_local_point(1, 3, prime, value), False)
            for value in ((1, 0), (1, 0, 1, 0), [1, 0, 1], (True, 0, 1), (1, False, 1), (1, 0, True), (1, 0, None),
                          (1, 0, "1"), ((1, 0, 1),), (1, (0,), 1), {1: 0}):
                self.assertIs(is_local_point(1, 3, prime, value), False)
        self.assertIs(is_local_point(1, 3, 2, (1, 2, 3)), is_point_by_rule(1, 3, 2, (1, 2, 3)))


if __name__ == "__main__":
    unittest.main()
