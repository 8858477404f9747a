"""Fours of the norm 0, table pairs, and algebras with told places: [3.1] and [3.4] to [3.7]."""

import random
from itertools import combinations
import unittest

from signfours.base.ratios import Ratio, made_ratio
from signfours.errors import InvalidAlgebra, InvalidFour, InvalidOperation, Refused, TooMany
from signfours.four.fours import Algebra, Four, made_four
from signfours.split import tables
from signfours.split.points import point_on
from signfours.split.tables import algebra_at, four_of_table, is_table_pair, table_of, table_pair, zero_norm
from tests.support import (
    Case, ELEVEN, HALF, HAMILTON, NO_ALGEBRAS, NO_FOURS, SIXTY, SPLIT, TEN, VALUES,
)

ONE, NO = Ratio(1), Ratio(0)
PAIR = (((ONE, NO), (NO, -ONE)), ((NO, ONE), (ONE, NO)))
GREAT_SPLIT = Algebra(10 ** 9, -(10 ** 9) + 1)
NO_TABLES = VALUES + (
    (), (ONE, NO), ((ONE, NO),), ((ONE, NO), (NO, ONE), (NO, NO)), ((ONE, NO), (NO,)), ((ONE, NO, NO), (NO, ONE)),
    [[ONE, NO], [NO, ONE]], ([ONE, NO], [NO, ONE]), [(ONE, NO), (NO, ONE)], ((1, 0), (0, 1)), ((ONE, NO), (NO, 1)),
    ((ONE, NO), (NO, True)), ((ONE, NO), (None, ONE)), ((ONE, False), (NO, ONE)), {0: (ONE, NO), 1: (NO, ONE)}, "1001",
)


def product(one, other):
    """The product of two tables of ratios, by the sums themselves."""
    return tuple(
        tuple(one[row][0] * other[0][at] + one[row][1] * other[1][at] for at in range(2)) for row in range(2)
    )


def added(one, other):
    return tuple(tuple(left + right for left, right in zip(row, there)) for row, there in zip(one, other))


def diagonal(ratio):
    ratio = Ratio(0) + ratio
    return ((ratio, NO), (NO, ratio))


def turned_pair(pair, table, inverse):
    """The pair of the tables T I / T and T J / T."""
    return tuple(product(product(table, one), inverse) for one in pair)


def sizes(value):
    if isinstance(value, Ratio):
        return [abs(value.top), value.bottom]
    return [size for part in value for size in sizes(part)]


class ZeroNorms(Case):

    def judge(self, a, b):
        algebra = Algebra(a, b)
        four, pair = zero_norm(algebra), table_pair(algebra)
        if algebra.places:
            self.assertEqual((four, pair, point_on(a, b)), (None, None, None))
            return
        self.assertIs(type(four), Four)
        self.assertEqual(four.algebra, algebra)
        self.assertTrue(four)
        self.assertEqual(four.norm, 0)
        self.assertTrue(all(abs(part) <= SIXTY for part in four.entries + (four.bottom,)))
        first, second = pair
        self.assertEqual(product(first, first), diagonal(a))
        self.assertEqual(product(second, second), diagonal(b))
        self.assertEqual(added(product(first, second), product(second, first)), diagonal(0))
        self.assertIs(is_table_pair(algebra, pair), True)
        self.assertTrue(all(size <= SIXTY for size in sizes(pair)))

    def test_small_numbers(self):
        for a in range(-26, 27):
            for b in range(-26, 27):
                if a and b:
                    self.judge(a, b)

    def test_great_numbers(self):
        great = (10 ** 6, -(10 ** 6), 999999, -999999, 999983, -999983, 998001, 524288, -524288, 510510, 1, -1, 2, -3)
        for a in great:
            for b in great:
                self.judge(a, b)
        draw = random.Random(11)
        for _ in range(200):
            self.judge(draw.choice((-1, 1)) * draw.randint(1, 10 ** 6), draw.choice((-1, 1)) * draw.randint(1, 10 ** 6))

    def test_told(self):
        # [3.7]
        for a, b, told in ((2, 7, True), (2, 5, False), (1, 1, True), (-1, -1, False), (4, -7, True), (-1, 4, True)):
            self.assertIs(zero_norm(Algebra(a, b)) is not None, told)
            self.assertIs(table_pair(Algebra(a, b)) is not None, told)

    def test_inverses(self):
        # [3.1]
        for algebra in (HAMILTON, ELEVEN, TEN):
            draw = random.Random(12)
            for _ in range(40):
                entries = tuple(draw.randint(-9, 9) for _ in range(4))
                self.assertIs(bool(Four(algebra, entries).norm), entries != (0, 0, 0, 0))

    def test_refused(self):
        self.assertEqual((tables.MAX_NUMBER, tables.MAX_PLACE), (1000000, 30))
        for function in (zero_norm, table_pair):
            for value in NO_ALGEBRAS:
                self.error_of(InvalidAlgebra, function, value)
            for algebra in (Algebra(1000001, 1), Algebra(-1, -1000001), GREAT_SPLIT, Algebra(10 ** 9, 10 ** 9)):
                self.assertEqual(self.error_of(TooMany, function, algebra).most, 1000000)
            for algebra in (Algebra(10 ** 6, 1), Algebra(-1, -(10 ** 6))):
                function(algebra)


class TablePairs(Case):

    def test_led_pairs(self):
        # [3.5]
        draw = random.Random(13)
        for a, b in ((1, 1), (2, 7), (-1, 2), (999983, -999983), (10 ** 9, -(10 ** 9))):
            algebra = Algebra(a, b)
            pair = table_pair(algebra) if abs(a) <= 10 ** 6 else (
                ((NO, Ratio(a)), (ONE, NO)), ((NO, Ratio(-a)), (ONE, NO)))
            self.assertIs(is_table_pair(algebra, pair), True)
            for _ in range(20):
                p, q, r, s = (draw.randint(-9, 9) for _ in range(4))
                if p * s == q * r:
                    continue
                table = ((Ratio(p), Ratio(q)), (Ratio(r), Ratio(s)))
                inverse = tuple(tuple(made_ratio(part, p * s - q * r) for part in row) for row in ((s, -q), (-r, p)))
                self.assertEqual(product(table, inverse), diagonal(1))
                led = turned_pair(pair, table, inverse)
                self.assertIs(is_table_pair(algebra, led), True)
                self.assertIs(is_table_pair(algebra, (led[0], pair[1])), led[0] == pair[0] or self.is_pair(algebra, led[0], pair[1]))
                self.assertIs(is_table_pair(algebra, (led[1], led[0])), a == b)

    def is_pair(self, algebra, first, second):
        return (
            product(first, first) == diagonal(algebra.a) and product(second, second) == diagonal(algebra.b)
            and added(product(first, second), product(second, first)) == diagonal(0)
        )

    def test_great_algebras_are_taken(self):
        pair = ((((NO, Ratio(10 ** 9)), (ONE, NO))), ((Ratio(3), NO), (NO, Ratio(-3))))
        self.assertIs(is_table_pair(Algebra(10 ** 9, 9), pair), True)
        self.assertIs(is_table_pair(Algebra(10 ** 9, 9), pair[::-1]), False)
        self.assertIs(is_table_pair(Algebra(9, 10 ** 9), pair[::-1]), True)
        self.assertIs(is_table_pair(Algebra(10 ** 9, 4), pair), False)
        self.assertIs(is_table_pair(HAMILTON, pair), False)

    def test_long_ratios(self):
        size = 10 ** 80
        table = ((made_ratio(size, 1), NO), (NO, made_ratio(1, size)))
        inverse = ((made_ratio(1, size), NO), (NO, made_ratio(size, 1)))
        self.assertIs(is_table_pair(SPLIT, turned_pair(PAIR, table, inverse)), True)

    def test_near_pairs(self):
        one, other = PAIR
        self.assertIs(is_table_pair(SPLIT, PAIR), True)
        near = [
            (one, one), (other, other), (one,), (one, other, one), [one, other], (one, diagonal(1)), (diagonal(1), other),
            (list(one), other), (one, tuple(map(list, other))), (((1, 0), (0, -1)), ((0, 1), (1, 0))),
            (((ONE, NO), (NO, -ONE)), ((NO, ONE), (1, NO))), (((ONE, NO), (NO, -ONE)), ((NO, ONE), (True, NO))),
            (((ONE, NO), (NO, -1)), ((NO, ONE), (ONE, NO))), (((ONE, False), (NO, -ONE)), ((NO, ONE), (ONE, NO))),
            (one, ((NO, Ratio(2)), (Ratio(1, 2), Ratio(1)))), (one, ((NO, Ratio(2)), (ONE, NO))), {0: one, 1: other},
            (((NO, ONE), (ONE, NO)), ((NO, ONE), (-ONE, NO))), (one, None), (None, other), (one, ((NO, ONE), (ONE,))),
            (one, ((NO, ONE), (ONE, NO), (NO, NO))), (one, ((NO, ONE, NO), (ONE, NO, NO))),
        ]
        for value in near + list(VALUES):
            self.assertIs(is_table_pair(SPLIT, value), False)
        # With -1 as the second number the same table fits.
        self.assertIs(is_table_pair(Algebra(1, -1), (((NO, ONE), (ONE, NO)), ((NO, ONE), (-ONE, NO)))), True)
        self.assertIs(is_table_pair(SPLIT, (one, ((NO, Ratio(2)), (Ratio(1, 2), NO)))), True)
        self.assertIs(is_table_pair(SPLIT, (other, one)), True)
        for algebra in (TEN, HAMILTON, ELEVEN, Algebra(1, 4), Algebra(4, 1)):
            self.assertIs(is_table_pair(algebra, PAIR), False)

    def test_refused(self):
        for value in NO_ALGEBRAS:
            self.error_of(InvalidAlgebra, is_table_pair, value, PAIR)
            self.error_of(InvalidAlgebra, is_table_pair, value, None)


class LedTables(Case):

    def pairs(self):
        for a, b in ((1, 1), (2, 7), (-1, 2), (3, -3), (999983, -999983), (4, -7)):
            yield Algebra(a, b), table_pair(Algebra(a, b))
        yield Algebra(10 ** 9, 9), (((NO, Ratio(10 ** 9)), (ONE, NO)), ((Ratio(3), NO), (NO, Ratio(-3))))
        yield SPLIT, PAIR

    def test_there_and_back(self):
        # [3.4]
        draw = random.Random(14)
        for algebra, pair in self.pairs():
            units = (diagonal(1), pair[0], pair[1], product(*pair))
            for _ in range(25):
                size = draw.choice((1, 9, SIXTY))
                four, other = (
                    Four(algebra, tuple(draw.randint(-size, size) for _ in range(4)), draw.randint(1, size)) for _ in range(2))
                table, there = table_of(four, pair), table_of(other, pair)
                self.assertEqual([type(entry) for row in table for entry in row], [Ratio] * 4)
                told = diagonal(0)
                for part, unit in zip(four.entries, units):
                    told = added(told, product(diagonal(made_ratio(part, four.bottom)), unit))
                self.assertEqual(table, told)
                self.assertEqual(four_of_table(algebra, pair, table), four)
                self.assertEqual(table_of(four + other, pair), added(table, there))
                self.assertEqual(table_of(four * other, pair), product(table, there))
                self.assertEqual(table[0][0] + table[1][1], four.trace)
                self.assertEqual(table[0][0] * table[1][1] - table[0][1] * table[1][0], four.norm)
            self.assertEqual(table_of(algebra.basis()[0], pair), diagonal(1))

    def test_each_table(self):
        draw = random.Random(15)
        for algebra, pair in self.pairs():
            for _ in range(25):
                table = tuple(
                    tuple(Ratio(draw.randint(-9, 9), draw.randint(1, 9)) for _ in range(2)) for _ in range(2))
                four = four_of_table(algebra, pair, table)
                self.assertEqual(four.algebra, algebra)
                self.assertEqual(table_of(four, pair), table)
            # Of the norm 0.
            for table in (((NO, ONE), (NO, NO)), ((ONE, NO), (NO, NO)), diagonal(0), ((ONE, ONE), (ONE, ONE))):
                four = four_of_table(algebra, pair, table)
                self.assertEqual(four.norm, 0)
                self.assertEqual(table_of(four, pair), table)
            if abs(algebra.a) <= 10 ** 6:
                zero = zero_norm(algebra)
                self.assertEqual(four_of_table(algebra, pair, table_of(zero, pair)), zero)

    def test_long_fours(self):
        four = made_four(SPLIT, (10 ** 90, -7, 0, 3), 10 ** 70 + 1)
        self.assertEqual(four_of_table(SPLIT, PAIR, table_of(four, PAIR)), four)

    def test_refused(self):
        four, table = Four(SPLIT, (1, 2, 3, 4)), diagonal(1)
        for value in NO_FOURS:
            self.error_of(InvalidFour, table_of, value, PAIR)
            self.error_of(InvalidFour, table_of, value, None)
        for value in NO_ALGEBRAS:
            self.error_of(InvalidAlgebra, four_of_table, value, None, None)
            self.error_of(InvalidAlgebra, four_of_table, value, PAIR, table)
        for value in VALUES + ((PAIR[0], PAIR[0]), PAIR[0], (((1, 0), (0, -1)), PAIR[1])):
            self.error_of(InvalidOperation, table_of, four, value)
            self.error_of(InvalidOperation, four_of_table, SPLIT, value, table)
            self.error_of(InvalidOperation, four_of_table, SPLIT, value, None)
        self.error_of(InvalidOperation, table_of, HALF, PAIR)
        self.error_of(InvalidOperation, four_of_table, TEN, PAIR, table)
        for value in NO_TABLES:
            self.error_of(InvalidOperation, four_of_table, SPLIT, PAIR, value)


class PlacedAlgebras(Case):

    PLACES = (0, 2, 3, 5, 7, 11, 13, 17, 19, 23, 29)

    def test_each_place_set(self):
        # [3.6]
        for many in (0, 2, 4):
            for places in combinations(self.PLACES, many):
                algebra = algebra_at(places)
                self.assertIs(type(algebra), Algebra)
                self.assertEqual(algebra.places, places)
                self.assertLessEqual(max(abs(algebra.a), abs(algebra.b)), 1000000)
                self.assertEqual(algebra, algebra_at(places))

    def test_odd_ones(self):
        for many in (1, 3):
            for places in combinations(self.PLACES, many):
                self.assertEqual(self.error_of(Refused, algebra_at, places).reason, ("odd", many))

    def test_refused(self):
        wrong = VALUES + (
            (2, 2), (3, 2), (2, 0), (0, 0), (0, 2, 2, 3), (0, 2, 3, 5, 7), (0, 2, 3, 5, 7, 11), (2, 31), (0, 31), (31,), (37,),
            (4,), (1, 2), (0, 1), (0, 9), (-2, 3), (-1, 0), (2, 10 ** 9 + 7), (0, 10 ** 99), [0, 2], [], {0: 1, 2: 1},
            (False, 2), (0, True), (0, None), (0, "2"), (0, (2,)), (0, Ratio(2)), ((0, 2),), "02", (2, 3, 5, 29, 31),
        )
        for value in wrong:
            if value != ():
                self.error_of(InvalidOperation, algebra_at, value)
        self.assertIs(algebra_at(()).is_tables, True)


if __name__ == "__main__":
    unittest.main()
