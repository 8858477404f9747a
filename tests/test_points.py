"""Points and small points: [3.1] to [3.3], as far as they speak of points."""

import random
import unittest
from math import gcd, isqrt

from signfours.base.numbers import square_free
from signfours.errors import InvalidOperation, TooMany
from signfours.four.fours import Algebra, Four
from signfours.place.signs import signed_places
from signfours.split import points
from signfours.split.points import is_point, is_small_point, point_on, small_point
from tests.support import Case, NO_INTEGERS, NO_NUMBERS, SIXTY, TOO_LONG

NEAR_TRIPLES = (
    (1, 0), (1, 0, 1, 0), [1, 0, 1], (True, 0, 1), (1, False, 1), (1, 0, True), (1, 0, None), (1, 0, "1"), ((1, 0, 1),),
    (1, (0,), 1), {1: 0}, (), "(1, 0, 1)",
)


class Points(Case):

    def judge(self, a, b):
        point = point_on(a, b)
        if signed_places(a, b):
            self.assertIsNone(point, (a, b))
            return
        self.assertIs(type(point), tuple)
        self.assertEqual([type(part) for part in point], [int] * 3)
        x, y, z = point
        self.assertTrue(any(point), (a, b))
        self.assertEqual(a * x * x + b * y * y, z * z, (a, b, point))
        self.assertTrue(all(abs(part) <= SIXTY for part in point), (a, b, point))
        self.assertIs(is_point(a, b, point), True)
        self.assertEqual(point, point_on(a, b))
        # [3.2]
        self.assertEqual(Four(Algebra(a, b), (z, x, y, 0)).norm, 0)

    def test_small_numbers(self):
        for a in range(-40, 41):
            for b in range(-40, 41):
                if a != 0 and b != 0:
                    self.judge(a, b)

    def test_against_a_search(self):
        for a in range(-12, 13):
            for b in range(-12, 13):
                if a == 0 or b == 0:
                    continue
                squares = {z * z for z in range(200)}
                found = any(
                    a * x * x + b * y * y in squares for x in range(14) for y in range(14) if (x, y) != (0, 0)
                )
                self.assertIs(point_on(a, b) is not None, found, (a, b))

    def test_great_numbers(self):
        draw = random.Random(71)
        many = 0
        while many < 400:
            a = draw.choice((-1, 1)) * draw.randint(1, 10 ** 6)
            z, x = draw.randint(0, 1500), draw.randint(1, 3)
            b = z * z - a * x * x
            if b != 0 and abs(b) <= 10 ** 6:
                many += 1
                self.judge(a, b)
                self.judge(b, a)
                self.judge(a, square_free(b))
        for _ in range(300):
            self.judge(draw.randint(1, 10 ** 6), -draw.randint(1, 10 ** 6))

    def test_numbers_near_the_bound(self):
        great = (10 ** 6, -(10 ** 6), 999999, -999999, 999983, -999983, 998001, -998001, 524288, -524288, 510510, 531441)
        for a in great:
            for b in great + (1, -1, 2, 3, -3):
                self.judge(a, b)
                self.judge(b, a)
        self.assertIsNotNone(point_on(999983, -999983))
        self.assertIsNotNone(point_on(10 ** 6, -999983))

    def test_told_points(self):
        for a, b in ((2, 7), (1, 1), (1, -1), (-1, 1), (-1, 2), (5, -1), (4, 3), (2, 2), (-2, 3), (6, 10), (3, -2)):
            self.assertEqual(signed_places(a, b), ())
            self.assertIsNotNone(point_on(a, b))
        for a, b in ((-1, -1), (2, 5), (-1, 3), (3, 5), (-7, -1)):
            self.assertIsNone(point_on(a, b))

    def test_refused(self):
        self.assertEqual(points.MAX_NUMBER, 1000000)
        for value in NO_NUMBERS:
            self.no_number(value, point_on, value, 0)
            self.no_number(value, point_on, value, 10 ** 9)
            self.no_number(value, point_on, 2, value)
            self.no_number(value, point_on, 10 ** 9, value)
        for great in (1000001, -1000001, 10 ** 9, -(10 ** 9)):
            self.assertEqual(self.error_of(TooMany, point_on, great, 1).most, 1000000)
            self.assertEqual(self.error_of(TooMany, point_on, -1, great).most, 1000000)
            self.assertEqual(self.error_of(TooMany, point_on, great, great).most, 1000000)
        self.no_number(True, point_on, True, False)


class JudgedPoints(Case):

    def test_small_triples(self):
        for a, b in ((1, 1), (2, 7), (-1, 2), (3, -3), (-1, -1), (4, 9), (2, 5)):
            for x in range(-6, 7):
                for y in range(-6, 7):
                    for z in range(-12, 13):
                        told = (x, y, z) != (0, 0, 0) and a * x * x + b * y * y == z * z
                        self.assertIs(is_point(a, b, (x, y, z)), told)

    def test_great_numbers_are_taken(self):
        self.assertIs(is_point(10 ** 9, -(10 ** 9), (1, 1, 0)), True)
        self.assertIs(is_point(10 ** 9, -(10 ** 9), (-1, 1, 0)), True)
        self.assertIs(is_point(10 ** 9, -(10 ** 9), (1, 1, 1)), False)
        self.assertIs(is_point(1000002, -1000001, (1, 1, 1)), True)

    def test_long_integers(self):
        for size in (SIXTY, 10 ** 60, 10 ** 200):
            self.assertIs(is_point(2, 7, (size, -size, 3 * size)), True)
            self.assertIs(is_point(2, 7, (size, -size, 3 * size + 1)), False)

    def test_every_value(self):
        for value in NO_INTEGERS + NEAR_TRIPLES + (0, 1, 10 ** 99):
            self.assertIs(is_point(1, 1, value), False)
        self.assertIs(is_point(1, 1, (1, 0, 1)), True)

    def test_refused(self):
        for given in ((1, 0, 1), (0, 0, 0), None):
            for value in NO_NUMBERS:
                self.no_number(value, is_point, value, 0, given)
                self.no_number(value, is_point, 2, value, given)


class SmallPoints(Case):

    def good(self, most):
        free = [number for number in range(1, most + 1) if square_free(number) == number]
        for a in free:
            for b in free:
                for c in free:
                    if gcd(a, b) == gcd(a, c) == gcd(b, c) == 1:
                        yield a, b, c

    def is_small(self, a, b, c, point):
        x, y, z = point
        return (
            (x, y, z) != (0, 0, 0) and a * x * x + b * y * y == c * z * z
            and x * x <= b * c and y * y <= a * c and z * z <= a * b
        )

    def judge(self, a, b, c):
        def is_square(number, modulus):
            return any((root * root - number) % modulus == 0 for root in range(modulus))

        point = small_point(a, b, c)
        told = is_square(b * c, a) and is_square(a * c, b) and is_square(-a * b, c)
        self.assertIs(point is not None, told, (a, b, c))
        if told:
            self.assertIs(type(point), tuple)
            self.assertEqual([type(part) for part in point], [int] * 3)
            self.assertTrue(self.is_small(a, b, c, point), (a, b, c, point))
            self.assertIs(is_small_point(a, b, c, point), True)

    def test_small_numbers(self):
        for a, b, c in self.good(14):
            self.judge(a, b, c)

    def test_great_numbers(self):
        draw = random.Random(73)
        many = 0
        while many < 120:
            a, b, c = [draw.randint(1, 200) for _ in range(3)]
            if gcd(a, b) == gcd(a, c) == gcd(b, c) == 1 and all(square_free(number) == number for number in (a, b, c)):
                many += 1
                self.judge(a, b, c)
        for a, b, c in ((199, 197, 193), (193, 199, 197), (1, 199, 197), (199, 1, 1), (1, 1, 199), (1, 1, 197), (195, 182, 187)):
            if gcd(a, b) == 1:
                self.judge(a, b, c)

    def test_all_small_triples(self):
        for a, b, c in ((3, 5, 2), (1, 1, 2), (7, 2, 1), (1, 1, 1), (1, 1, 3), (5, 6, 11), (2, 3, 5)):
            for x in range(-9, 10):
                for y in range(-9, 10):
                    for z in range(-9, 10):
                        self.assertIs(is_small_point(a, b, c, (x, y, z)), self.is_small(a, b, c, (x, y, z)))

    def test_each_bound_counts(self):
        # In turn only x, only y and only z are too great, or all are at their bounds.
        self.assertIs(is_small_point(1, 1, 1, (1, 0, 1)), True)
        self.assertIs(is_small_point(1, 1, 1, (3, 4, 5)), False)
        self.assertIs(is_small_point(1, 1, 2, (1, 1, 1)), True)
        self.assertIs(is_small_point(1, 1, 2, (7, -1, 5)), False)
        self.assertIs(is_small_point(1, 1, 2, (10 ** 70, 10 ** 70, 10 ** 70)), False)
        self.assertIs(is_small_point(6, 1, 7, (1, 1, 1)), True)
        for a, b, c in self.good(12):
            for x in range(isqrt(b * c) + 4):
                for y in range(isqrt(a * c) + 4):
                    rest = a * x * x + b * y * y
                    z = isqrt(rest // c)
                    if rest == c * z * z:
                        self.assertIs(is_small_point(a, b, c, (x, -y, z)), self.is_small(a, b, c, (x, y, z)))

    def test_every_value(self):
        for value in NO_INTEGERS + NEAR_TRIPLES + (0, 1, 10 ** 99, (0, 0, 0)):
            self.assertIs(is_small_point(1, 1, 1, value), False)
        self.assertIs(is_small_point(1, 1, 1, (1, 0, 1)), True)
        self.assertIs(is_small_point(1, 1, 1, (1, 0, -1)), True)

    def test_refused(self):
        self.assertEqual(points.MAX_SMALL, 200)
        no_small = NO_INTEGERS + TOO_LONG + (0, -1, 201, -200, 10 ** 9, SIXTY)
        for function, rest in ((small_point, ()), (is_small_point, ((1, 0, 1),)), (is_small_point, (None,))):
            for value in no_small:
                self.no_number(value, function, value, 0, 201, *rest)
                self.no_number(value, function, 4, value, None, *rest)
                self.no_number(value, function, 4, 4, value, *rest)
            for numbers in (
                (4, 1, 1), (1, 4, 1), (1, 1, 4), (3, 3, 1), (3, 1, 3), (1, 3, 3), (6, 35, 10), (1, 1, 200), (180, 7, 11),
                (25, 1, 2), (1, 9, 2), (2, 3, 49), (6, 10, 1), (6, 1, 10), (1, 6, 10), (10, 1, 15), (1, 14, 21), (2, 2, 2),
            ):
                self.error_of(InvalidOperation, function, *numbers, *rest)


if __name__ == "__main__":
    unittest.main()
