"""Signs, places and squares at places: [1.3], [1.4], [1.6]."""

import random
import unittest
from functools import lru_cache

from signfours.base.numbers import factors, square_free
from signfours.place.signs import is_square_at, sign_at, signed_places
from tests.support import Case, NO_NUMBERS, NO_PRIMES, needed_power, often, primes_to

GREAT = (10 ** 9, -(10 ** 9), 999999937, -999999929, 31607 ** 2, -(2 ** 29), 3 ** 18, 223092870, -720720, 999999000)
NO_PLACES = tuple(value for value in NO_PRIMES if not (type(value) is int and value == 0))
SMALL = [number for number in range(-12, 13) if number != 0] + [16, -18, 24, -27, 32, 45, -50]


@lru_cache(maxsize=None)
def squares_modulo(power):
    return frozenset(root * root % power for root in range(power))


@lru_cache(maxsize=None)
def multiples_modulo(number, power):
    return frozenset(number * square % power for square in squares_modulo(power))


def is_solved(a, b, prime):
    """By search: a x x + b y y = z z modulo the power of [1.5], one of the three being 1."""
    power = needed_power(a, b, prime)
    squares = squares_modulo(power)
    return (
        any((a + multiple) % power in squares for multiple in multiples_modulo(b, power))
        or any((b + multiple) % power in squares for multiple in multiples_modulo(a, power))
        or any((1 - multiple) % power in multiples_modulo(b, power) for multiple in multiples_modulo(a, power))
    )


class Signs(Case):

    def test_at_zero(self):
        for a in SMALL + list(GREAT):
            for b in SMALL + list(GREAT):
                self.same(sign_at(a, b, 0), -1 if a < 0 and b < 0 else 1)

    def test_against_a_search(self):
        # A solution modulo the told power tells a solution, so the search judges the rule.
        for prime, numbers in ((2, range(-12, 13)), (3, range(-18, 19)), (5, range(-25, 26)), (7, range(-14, 15))):
            for a in numbers:
                for b in numbers:
                    if a != 0 and b != 0 and a <= b:
                        told = 1 if is_solved(a, b, prime) else -1
                        self.same(sign_at(a, b, prime), told)

    def test_greater_primes_against_a_search(self):
        for prime in (11, 13, 31):
            for a in (1, -1, 2, 3, prime, -prime, 2 * prime, 3 * prime):
                for b in (1, -1, 2, 5, prime, -prime, 2 * prime, 3 * prime):
                    self.assertEqual(sign_at(a, b, prime), 1 if is_solved(a, b, prime) else -1, (a, b, prime))

    def test_great_powers(self):
        self.assertEqual([sign_at(-(2 ** 29), 5, 2), sign_at(2 ** 29, 3, 2), sign_at(2 ** 28, 3, 2)], [-1, -1, 1])
        self.assertEqual([sign_at(3 ** 17, 2, 3), sign_at(3 ** 18, 2, 3), sign_at(-(3 ** 17), 3, 3)], [-1, 1, 1])
        self.assertEqual([sign_at(3 ** 17, 3, 3), sign_at(999999937, -1, 999999937), sign_at(999999937, 5, 999999937)], [-1, 1, -1])

    def test_great_prime_place(self):
        prime = 999999937
        self.assertEqual(prime % 4, 1)
        for other in range(2, 30):
            is_square = pow(other, (prime - 1) // 2, prime) == 1
            self.assertEqual(sign_at(prime, other, prime), 1 if is_square else -1)
            self.assertEqual(sign_at(other, -prime, prime), 1 if is_square else -1)

    def test_places_that_divide_nothing(self):
        for prime in (3, 5, 7, 11, 13, 999983, 999999937):
            self.assertEqual([sign_at(2, -1, prime), sign_at(1, 1, prime), sign_at(-4, 8, prime)], [1, 1, 1])

    def test_refused(self):
        for value in NO_NUMBERS:
            self.no_number(value, sign_at, value, 0, 4)
            self.no_number(value, sign_at, value, 3, 3)
            self.no_number(value, sign_at, 3, value, 3)
            self.no_number(value, sign_at, 3, value, None)
        for value in NO_PLACES:
            self.no_number(value, sign_at, 3, 5, value)
        self.no_number(False, sign_at, 3, 5, False)
        self.no_number("a", sign_at, "a", "b", "c")


class Rules(Case):
    """The rules of [1.4]."""

    def drawn(self):
        draw = random.Random(13)
        for size in (6, 60, 1000, 31000):
            for _ in range(60):
                yield [draw.choice((-1, 1)) * draw.randint(1, size) for _ in range(3)]

    def test_product_of_all_signs(self):
        for a, b, _ in self.drawn():
            product = 1
            for place in {0, 2} | set(factors(a)) | set(factors(b)):
                product *= sign_at(a, b, place)
            self.assertEqual(product, 1, (a, b))

    def test_rules(self):
        for a, b, c in self.drawn():
            for place in {0, 2, 3, 5} | set(factors(a)) | set(factors(b)) | set(factors(c)):
                sign = sign_at(a, b, place)
                self.assertIn(sign, (1, -1))
                self.assertEqual(sign, sign_at(b, a, place))
                self.assertEqual(sign_at(a, b * c, place), sign * sign_at(a, c, place))
                self.assertEqual(sign_at(a, -a, place), 1)
                if a != 1:
                    self.assertEqual(sign_at(a, 1 - a, place), 1)
                root = c % 13 + 1
                self.assertEqual(sign_at(a * root * root, b, place), sign)
                self.assertEqual(sign_at(a, b * root * root, place), sign)

    def test_great_rules(self):
        for a in GREAT:
            for place in {0, 2, 3} | set(factors(a)):
                self.assertEqual(sign_at(a, -a, place), 1)
                self.assertEqual(sign_at(a, 1 - a, place) if abs(1 - a) <= 10 ** 9 else 1, 1)


class Places(Case):

    def judge(self, a, b):
        places = signed_places(a, b)
        self.assertIs(type(places), tuple)
        self.assertEqual(list(places), sorted(set(places)))
        self.assertEqual(len(places) % 2, 0)
        told = [place for place in sorted({0, 2} | set(factors(a)) | set(factors(b))) if sign_at(a, b, place) == -1]
        self.assertEqual(list(places), told)
        for place in places:
            self.assertIs(type(place), int)
        self.assertEqual(places, signed_places(b, a))
        self.assertEqual(places, signed_places(square_free(a), square_free(b)))

    def test_small(self):
        for a in SMALL:
            for b in SMALL:
                self.judge(a, b)

    def test_great(self):
        for a in GREAT:
            for b in GREAT + (1, -1, 2, -7):
                self.judge(a, b)

    def test_told_places(self):
        self.assertEqual(signed_places(-1, -1), (0, 2))
        self.assertEqual(signed_places(-1, -3), (0, 3))
        self.assertEqual(signed_places(-2, -5), (0, 5))
        self.assertEqual(signed_places(-1, -7), (0, 7))
        self.assertEqual(signed_places(-2, -13), (0, 13))
        self.assertEqual(signed_places(-1, 3), (2, 3))
        self.assertEqual(signed_places(3, 5), (3, 5))
        self.assertEqual(signed_places(-1, -15), (0, 3))
        self.assertEqual(signed_places(1, -999999937), ())
        self.assertEqual(signed_places(-6, -10), (0, 3))
        self.assertEqual(signed_places(-3, -10), (0, 2, 3, 5))
        self.assertEqual(signed_places(-1, -42), (0, 2, 3, 7))

    def test_refused(self):
        for value in NO_NUMBERS:
            self.no_number(value, signed_places, value, 1)
            self.no_number(value, signed_places, 1, value)
            self.no_number(value, signed_places, value, "x")
        self.no_number(True, signed_places, True, False)


class Squares(Case):

    def test_at_zero(self):
        for number in SMALL + list(GREAT):
            self.assertIs(is_square_at(number, 0), number > 0)

    def test_against_all_squares_modulo_a_power(self):
        for prime, size in ((2, 200), (3, 200), (5, 260), (7, 120), (11, 130), (31, 60)):
            for number in range(-size, size + 1):
                if number == 0:
                    continue
                power = prime ** (often(number, prime) + (3 if prime == 2 else 1))
                told = any((root * root - number) % power == 0 for root in range(power))
                self.assertIs(is_square_at(number, prime), told, (number, prime))

    def test_great(self):
        self.assertIs(is_square_at(31607 ** 2, 31607), True)
        self.assertIs(is_square_at(-(31607 ** 2), 31607), False)
        self.assertIs(is_square_at(31607, 31607), False)
        self.assertIs(is_square_at(3 ** 18, 3), True)
        self.assertIs(is_square_at(-(3 ** 18), 3), False)
        self.assertIs(is_square_at(-7 * 4 ** 13, 2), True)
        self.assertIs(is_square_at(2 ** 29, 2), False)
        self.assertIs(is_square_at(2 ** 28, 2), True)
        self.assertIs(is_square_at(-1, 999999937), True)
        self.assertIs(is_square_at(999999937, 999999937), False)

    def test_squares_of_integers(self):
        # [1.6]: a square is one at each place; any other number lacks it at some place.
        places = [0] + primes_to(60)
        for number in range(-150, 151):
            if number == 0:
                continue
            is_square = number > 0 and round(number ** 0.5) ** 2 == number
            self.assertIs(all(is_square_at(number, place) for place in places), is_square)

    def test_refused(self):
        for value in NO_NUMBERS:
            self.no_number(value, is_square_at, value, 2)
            self.no_number(value, is_square_at, value, 4)
        for value in NO_PLACES:
            self.no_number(value, is_square_at, 5, value)
        self.no_number(False, is_square_at, 5, False)


if __name__ == "__main__":
    unittest.main()
