"""Tables of neighbours: stage 9."""

import random
import unittest
from math import gcd

from signfours.base.ratios import Ratio
from signfours.errors import InvalidOperation, InvalidOrder
from signfours.ideal import tables
from signfours.ideal.classes import Book
from signfours.ideal.ideals import ideals_of, inverse, is_primitive_in
from signfours.ideal.tables import (
    is_balanced, is_joined, primitive_table, table_of_neighbours, table_product, table_trace, ways_table,
)
from signfours.order.norms import count_fours
from signfours.order.orders import greatest_over, plain_order
from tests.support import Case, GREAT, NO_INTEGERS, SIXTY, TOO_LONG, VALUES, primes_to
from tests.test_classes import placed

BOOKS = {primes: Book(greatest_over(plain_order(placed(primes)))) for primes in (
    (2,), (3,), (11,), (17,), (23,), (29,), (37,), (43,), (61,), (2, 3, 5), (2, 3, 7), (2, 5, 7), (3, 5, 7), (139,), (2, 3, 47))}
NO_BOOKS = tuple(value for value in VALUES if not isinstance(value, Book)) + (((GREAT,),), (GREAT,))


def idle(size):
    return tuple(tuple(int(at == to) for to in range(size)) for at in range(size))


def product(one, other):
    size = range(len(one))
    return tuple(tuple(sum(one[at][by] * other[by][to] for by in size) for to in size) for at in size)


def combined(one, many, other):
    return tuple(tuple(left + many * right for left, right in zip(row, there)) for row, there in zip(one, other))


def divisor_sum(number, primes):
    return sum(one for one in range(1, number + 1) if number % one == 0 and all(one % prime for prime in primes))


class Counted(Case):

    def counted(self, book, n, wanted):
        """The table by the ideals of the right orders, sorted by their classes."""
        rows = []
        for at, ideal in enumerate(book.ideals):
            row = [0] * len(book)
            for step in ideals_of(book.order_at(at), n):
                inner = ideal * step
                if wanted(ideal, inner):
                    row[book.index(inner)] += 1
            rows.append(tuple(row))
        return tuple(rows)

    def test_against_the_ideals(self):
        # [9.1], [9.4]
        for primes in ((2,), (11,), (23,), (37,), (2, 3, 5), (2, 3, 7)):
            book = BOOKS[primes]
            for n in (1, 2, 3, 4, 5, 7, 8, 9, 11, 12):
                self.assertEqual(table_of_neighbours(book, n), self.counted(book, n, lambda ideal, inner: True))
                self.assertEqual(primitive_table(book, n), self.counted(book, n, is_primitive_in))

    def test_against_the_fours(self):
        # [9.1]
        for primes in ((3,), (17,), (43,), (2, 5, 7)):
            book = BOOKS[primes]
            for n in (1, 6, 13, 30):
                found = table_of_neighbours(book, n)
                for at, one in enumerate(book.ideals):
                    for to, other in enumerate(book.ideals):
                        lattice = inverse(other) * one
                        self.assertEqual(lattice.lattice_norm(), one.lattice_norm().over(other.lattice_norm()))
                        self.assertEqual(found[at][to] * book.weights[to], count_fours(lattice, n))


class Rules(Case):

    def test_forms(self):
        for primes, book in BOOKS.items():
            for n in range(1, 31):
                for function in (table_of_neighbours, primitive_table):
                    table = function(book, n)
                    self.assertEqual([type(table)] + [type(row) for row in table], [tuple] * (len(book) + 1))
                    self.assertEqual({type(entry) for row in table for entry in row}, {int})
                    self.assertEqual([len(row) for row in table], [len(book)] * len(book))
                    self.assertTrue(all(entry >= 0 for row in table for entry in row))
                    self.assertIs(is_balanced(book, table), True)

    def test_sums_of_rows(self):
        # [9.2], [9.4]
        for primes, book in BOOKS.items():
            for n in range(1, 31):
                table = table_of_neighbours(book, n)
                self.assertEqual({sum(row) for row in table}, {divisor_sum(n, primes)})
                for to in range(len(book)):
                    # Each row divided by its weight; all times 24, which the weights divide.
                    total = sum(row[to] * (24 // weight) for row, weight in zip(table, book.weights))
                    self.assertEqual(total, divisor_sum(n, primes) * (24 // book.weights[to]))
            for prime in primes_to(30):
                size = prime
                many = 1
                while size <= 30:
                    told = (prime + 1) * prime ** (many - 1) if prime not in primes else int(many == 1)
                    self.assertEqual({sum(row) for row in primitive_table(book, size)}, {told})
                    size, many = size * prime, many + 1

    def test_products(self):
        # [9.3]
        for primes, book in BOOKS.items():
            told = {n: table_of_neighbours(book, n) for n in range(1, 31)}
            self.assertEqual(told[1], idle(len(book)))
            for m in range(1, 31):
                for n in range(1, 31):
                    if m < n <= 12:
                        self.assertEqual(product(told[m], told[n]), product(told[n], told[m]))
                    if m * n <= 30 and gcd(m, n) == 1:
                        self.assertEqual(told[m * n], product(told[m], told[n]))
            for prime in primes_to(30):
                power = prime
                while power * prime <= 30:
                    made = product(told[prime], told[power])
                    if prime in primes:
                        self.assertEqual(told[power * prime], made)
                    else:
                        self.assertEqual(made, combined(told[power * prime], prime, told[power // prime]))
                    power *= prime
                if prime in primes:
                    self.assertEqual(product(told[prime], told[prime]), idle(len(book)))
                    self.assertEqual([sorted(row)[-1] for row in told[prime]], [1] * len(book))

    def test_primitive_tables(self):
        # [9.4]
        for primes, book in BOOKS.items():
            for n in range(1, 31):
                made = tuple((0,) * len(book) for _ in book)
                for m in range(1, 6):
                    if n % (m * m) == 0:
                        made = combined(made, 1, primitive_table(book, n // (m * m)))
                self.assertEqual(made, table_of_neighbours(book, n))

    def test_ways(self):
        # [9.5]
        for primes, book in BOOKS.items():
            for prime in primes_to(30):
                if prime in primes:
                    continue
                self.assertEqual(ways_table(book, prime, 0), idle(len(book)))
                power, many = prime, 1
                while power <= 30:
                    self.assertEqual(ways_table(book, prime, many), primitive_table(book, power))
                    power, many = power * prime, many + 1
            prime = next(prime for prime in (2, 3, 5, 7, 11) if prime not in primes)
            ahead, made = ways_table(book, prime, 1), ways_table(book, prime, 2)
            steps = table_of_neighbours(book, prime)
            for many in range(3, 21):
                ahead, made = made, combined(product(made, steps), -prime, ahead)
                found = ways_table(book, prime, many)
                self.assertEqual(found, made)
                self.assertEqual({sum(row) for row in found}, {(prime + 1) * prime ** (many - 1)})

    def test_joined(self):
        # [9.6]
        for primes, book in BOOKS.items():
            for prime in primes_to(30):
                told = table_of_neighbours(book, prime)
                reached = combined(idle(len(book)), 1, told)
                for _ in range(4):
                    reached = tuple(tuple(min(entry, 1) for entry in row) for row in product(reached, reached))
                self.assertIs(is_joined(book, prime), all(entry for row in reached for entry in row))
                if prime not in primes:
                    self.assertIs(is_joined(book, prime), True)
                elif len(book) > 2:
                    self.assertIs(is_joined(book, prime), False)
        self.assertIs(is_joined(BOOKS[(2,)], 2), True)

    def test_rows_that_are_not_true(self):
        # [9.7]
        book = BOOKS[(11,)]
        two = table_of_neighbours(book, 2)
        self.assertNotEqual(two, tuple(zip(*two)))
        self.assertIn(0, two[0] + two[1])
        self.assertNotEqual(table_of_neighbours(book, 4), product(two, two))


class Tables(Case):

    def test_products_and_traces(self):
        draw = random.Random(91)
        for size in range(1, 13):
            for most in (3, SIXTY):
                one, other = (
                    tuple(tuple(draw.randint(-most, most) for _ in range(size)) for _ in range(size)) for _ in range(2))
                self.assertEqual(table_product(one, other), product(one, other))
                self.assertEqual(table_trace(one), sum(one[at][at] for at in range(size)))
        self.assertEqual((table_product(((2,),), ((3,),)), table_trace(((-5,),))), (((6,),), -5))

    def test_balance(self):
        for primes in ((11,), (17,), (37,), (2, 3, 7)):
            book = BOOKS[primes]
            draw = random.Random(92)
            for _ in range(60):
                table = tuple(tuple(draw.randint(0, 2) for _ in book) for _ in book)
                told = all(
                    book.weights[to] * table[at][to] == book.weights[at] * table[to][at]
                    for at in range(len(book)) for to in range(len(book)))
                self.assertIs(is_balanced(book, table), told)
        book = BOOKS[(11,)]
        first, second = book.weights
        self.assertIs(is_balanced(book, ((5, first), (second, -SIXTY))), True)
        self.assertIs(is_balanced(book, ((5, second), (first, 7))), False)

    def wrong_tables(self, size):
        good = idle(size)
        yield from VALUES
        yield from (good[1:], good + good[:1], list(good), [list(row) for row in good], (list(good[0]),) + good[1:], (good,), None)
        for entry in (True, False, None, "1", Ratio(1), (1,), 10 ** 60, -(10 ** 60), 10 ** 99, [1]):
            yield ((entry,) + good[0][1:],) + good[1:]
            yield good[:-1] + (good[-1][:-1] + (entry,),)
        yield (good[0][1:],) + good[1:]
        yield good[:-1] + (good[-1] + (0,),)
        yield good[:-1] + (None,)
        yield good[:-1] + (7,)
        yield {at: row for at, row in enumerate(good)}
        yield idle(size + 1)

    def test_wrong_tables(self):
        for primes in ((2,), (11,), (23,)):
            book = BOOKS[primes]
            for value in self.wrong_tables(len(book)):
                self.error_of(InvalidOperation, is_balanced, book, value)
        for size in (1, 2, 5):
            good = idle(size)
            for value in self.wrong_tables(size):
                if value == idle(size + 1):
                    continue
                self.error_of(InvalidOperation, table_product, value, None)
                self.error_of(InvalidOperation, table_product, value, good)
                self.error_of(InvalidOperation, table_trace, value)
            for value in self.wrong_tables(size):
                self.error_of(InvalidOperation, table_product, good, value)
        for function in (table_trace, lambda table: table_product(table, table)):
            for value in ((), idle(13), ((),), ((), ())):
                self.error_of(InvalidOperation, function, value)
            function(idle(12))


class Errors(Case):

    def test_books(self):
        self.assertEqual((tables.MAX_TABLE, tables.MAX_STEPS), (30, 20))
        for value in NO_BOOKS:
            for function in (table_of_neighbours, primitive_table, is_joined, is_balanced):
                self.error_of(InvalidOrder, function, value, None)
            self.error_of(InvalidOrder, ways_table, value, None, None)

    def test_numbers(self):
        book = BOOKS[(11,)]
        for value in NO_INTEGERS + TOO_LONG + (0, -1, 31, 32, -30, SIXTY):
            self.no_number(value, table_of_neighbours, book, value)
            self.no_number(value, primitive_table, book, value)
        for value in NO_INTEGERS + TOO_LONG + (0, 1, -2, 4, 9, 27, 30, 31, 37, 999999937, SIXTY):
            self.no_number(value, is_joined, book, value)
            self.no_number(value, ways_table, book, value, -1)
        for value in NO_INTEGERS + TOO_LONG + (-1, 21, 200, SIXTY):
            self.no_number(value, ways_table, book, 2, value)
            self.no_number(value, ways_table, book, 11, value)
        self.error_of(InvalidOperation, ways_table, book, 11, 0)
        self.error_of(InvalidOperation, ways_table, BOOKS[(2, 3, 5)], 3, 20)
        ways_table(book, 29, 20)
        self.assertIs(is_joined(book, 29), True)


if __name__ == "__main__":
    unittest.main()
