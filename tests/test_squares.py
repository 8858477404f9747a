"""Sums of squares: [12.7]."""

import random
import unittest
from itertools import product
from math import isqrt

from signfours.base.numbers import factors
from signfours.base.ratios import Ratio
from signfours.order.norms import count_fours, counts_to
from signfours.whole.squares import count_four_squares, count_whole, four_squares, is_three_squares, three_squares, two_squares
from tests.support import Case, HURWITZ, LONG, NO_INTEGERS, PLAIN, SIXTY, TOO_LONG, VALUES

MOST = 10 ** 8
NO_SQUARED = NO_INTEGERS + TOO_LONG + (0, -1, -MOST)


def divisors(number):
    found = []
    for one in range(1, isqrt(number) + 1):
        if number % one == 0:
            found.extend({one, number // one})
    return found


def is_told_three(number):
    while number % 4 == 0:
        number //= 4
    return number % 8 != 7


def is_told_two(number):
    return not any(prime % 4 == 3 and many % 2 for prime, many in factors(number).items())


class Counts(Case):

    def test_small_numbers(self):
        told = [0] * 61
        for parts in product(range(-7, 8), repeat=4):
            worth = sum(part * part for part in parts)
            if worth <= 60:
                told[worth] += 1
        for number in range(1, 61):
            self.same(count_four_squares(number), told[number])
        plain, whole = counts_to(PLAIN, 200), counts_to(HURWITZ, 200)
        for number in range(1, 201):
            self.assertEqual(count_four_squares(number), plain[number])
            self.same(count_whole(number), whole[number])
        self.assertEqual(count_fours(HURWITZ, 195), count_whole(195))

    def test_great_numbers(self):
        draw = random.Random(1301)
        for number in [MOST, MOST - 1, 99999989, 2 ** 26, 4 ** 13, 3 ** 16, 73513440] + [draw.randint(1, MOST) for _ in range(60)]:
            told = divisors(number)
            self.assertEqual(count_four_squares(number), 8 * sum(one for one in told if one % 4))
            self.assertEqual(count_whole(number), 24 * sum(one for one in told if one % 2))

    def test_errors(self):
        for function in (count_four_squares, count_whole, three_squares, two_squares):
            for given in NO_SQUARED:
                self.no_number(given, function, given)
            for number in (MOST + 1, SIXTY):
                self.too_many(MOST, function, number)
            self.assertIsNot(function(MOST), False)
        for given in NO_SQUARED:
            self.no_number(given, four_squares, given)
            self.no_number(given, is_three_squares, given, None)
        for number in (201, MOST, SIXTY):
            self.too_many(200, four_squares, number)


class Tuples(Case):

    def test_four_squares(self):
        told = {number: [] for number in range(1, 201)}
        for parts in product(range(15), repeat=4):
            worth = sum(part * part for part in parts)
            if 1 <= worth <= 200 and list(parts) == sorted(parts, reverse=True):
                told[worth].append(parts)
        for number in range(1, 201):
            self.same(four_squares(number), tuple(told[number]))
            self.assertEqual(list(four_squares(number)), sorted(four_squares(number)))
        self.assertEqual(four_squares(12), ((2, 2, 2, 0), (3, 1, 1, 1)))

    def judged(self, found, many, number, told):
        if not told:
            self.assertIsNone(found)
            return
        self.assertIs(type(found), tuple)
        self.assertEqual(len(found), many)
        self.assertTrue(all(type(part) is int for part in found))
        self.assertEqual(sum(part * part for part in found), number)

    def test_small_numbers(self):
        pairs = {a * a + b * b for a, b in product(range(45), repeat=2)}
        triples = {pair + c * c for pair in pairs for c in range(45)}
        for number in range(1, 2001):
            self.judged(two_squares(number), 2, number, number in pairs)
            self.judged(three_squares(number), 3, number, number in triples)
            self.assertIs(number in pairs, is_told_two(number))
            self.assertIs(number in triples, is_told_three(number))
            self.assertEqual(three_squares(number), three_squares(number))

    def test_great_numbers(self):
        draw = random.Random(1302)
        numbers = [MOST - at for at in range(60)] + [draw.randint(1, MOST) for _ in range(250)]
        numbers += [4 ** s * (8 * m + 7) for s in range(12) for m in (0, 1, 2, 5) if 4 ** s * (8 * m + 7) <= MOST]
        numbers += [4 ** s * (8 * m + rest) for s in range(11) for m in (0, 1, 5) for rest in (1, 2, 3, 5, 6) if 4 ** s * (8 * m + rest) <= MOST]
        numbers += [9999 ** 2, 10 ** 8, 2 * 7069 ** 2, 9973 * 9967, 9973 * 9949, 3 * 5 ** 10, 9 * 5 ** 10, 7 ** 8, 7 ** 9, 99999989, 2 ** 26, 2 ** 25, 5 ** 11, 13 ** 7]
        for number in numbers:
            self.judged(two_squares(number), 2, number, is_told_two(number))
            self.judged(three_squares(number), 3, number, is_told_three(number))

    def test_is_three_squares(self):
        for number, right in ((14, (-3, 1, 2)), (14, (1, 2, 3)), (1, (0, 0, -1)), (9, (0, 3, 0)), (9, (2, -1, 2)), (3 * SIXTY * 10 ** 0, None)):
            if right is not None:
                self.assertIs(is_three_squares(number, right), True)
                self.assertIs(is_three_squares(number + 1, right), False)
        for number in (1, 2, 3, 14, 28):
            for given in VALUES + ((1, 2), (1, 2, 3, 0), [1, 2, 3], (True, 0, 0), (1, True, 1), (1, 0, False), (Ratio(1), 0, 0), ("1", 0, 0), (None, 0, 0), (LONG, 0, 0), 14):
                told = number == 14 and repr(given) == "(1, 2, 3)"
                self.assertIs(is_three_squares(number, given), told, given)
        great = 3 * (10 ** 29) ** 2
        self.assertIs(is_three_squares(great, (10 ** 29, -10 ** 29, 10 ** 29)), True)
        self.assertIs(is_three_squares(great, (10 ** 29, -10 ** 29, 10 ** 29 + 1)), False)
        self.assertIs(is_three_squares(7, three_squares(7)), False)
        self.assertIs(is_three_squares(MOST, three_squares(MOST)), True)


if __name__ == "__main__":
    unittest.main()
