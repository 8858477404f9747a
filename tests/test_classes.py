"""Classes of ideals: [8.1] to [8.8]."""

import random
import unittest
from fractions import Fraction
from itertools import combinations, permutations

from signfours.base.ratios import Ratio
from signfours.errors import InvalidIdeal, InvalidOperation, InvalidOrder, TooMany
from signfours.four.fours import Algebra, Four
from signfours.ideal import classes
from signfours.ideal.classes import Book, classes_by_rule, is_book, mass
from signfours.ideal.ideals import are_one_class, ideals_of, is_ideal, neighbours
from signfours.order.lattices import Lattice
from signfours.order.norms import counts_to, units
from signfours.order.orders import greatest_over, plain_order
from tests.support import (
    Case, ELEVEN, GREAT, HAMILTON, HURWITZ, I, J, NO_INTEGERS, NO_LATTICES, ONE, PLAIN, SIXTY, SPLIT, TEN, TOO_LONG,
    VALUES, led, primes_to, random_four,
)

SPLIT_BEST, TEN_BEST = greatest_over(plain_order(SPLIT)), greatest_over(plain_order(TEN))
NO_DEFINITE = NO_LATTICES + (PLAIN, HURWITZ.scaled(2), HURWITZ.by(ONE + I + J), SPLIT_BEST, TEN_BEST, plain_order(TEN))


def sign(number, prime):
    """The residue sign of -4 and -3."""
    if number % prime == 0:
        return 0
    if prime == 2:
        return 1 if number % 8 in (1, 7) else -1
    return 1 if any((root * root - number) % prime == 0 for root in range(prime)) else -1


def rule(primes):
    product, fourths, thirds = 1, 1, 1
    for prime in primes:
        product *= prime - 1
        fourths *= 1 - sign(-4, prime)
        thirds *= 1 - sign(-3, prime)
    told = Fraction(product, 12) + Fraction(fourths, 4) + Fraction(thirds, 3)
    assert told.denominator == 1
    return told.numerator


def placed(primes):
    """An algebra whose places are 0 and some primes, by a search."""
    free = 1
    for prime in primes:
        free *= prime
    for size in [1] + primes_to(2000):
        algebra = Algebra(-size, -free)
        if algebra.places == (0,) + tuple(primes):
            return algebra
    return None


def orders(most):
    """A greatest order for each discriminant to a bound with at most twelve classes."""
    primes = primes_to(most)
    for some in [(prime,) for prime in primes] + list(combinations(primes_to(60), 3)):
        product = 1
        for prime in some:
            product *= prime
        if product <= most and rule(some) <= 12:
            yield some, greatest_over(plain_order(placed(some)))


class Books(Case):

    def judge(self, primes, order):
        book = Book(order)
        self.assertEqual(book.order, order)
        self.assertEqual(book.ideals[0], order)
        self.assertEqual(len(book), rule(primes))
        self.assertEqual((len(book.ideals), len(book.weights)), (len(book), len(book)))
        self.assertEqual([type(book.ideals), type(book.weights)], [tuple, tuple])
        # [8.1], [8.2], [8.3]
        for at, ideal in enumerate(book.ideals):
            self.assertIs(is_ideal(ideal), True)
            self.assertEqual(ideal.left_order(), order)
            self.assertEqual(book.order_at(at), ideal.right_order())
            self.assertEqual(book.weights[at], len(units(book.order_at(at))))
            self.assertIn(book.weights[at], {(2,): (24,), (3,): (12,)}.get(primes, (2, 4, 6)))
        told = Fraction(1, 24)
        for prime in primes:
            told *= prime - 1
        self.assertEqual(sum(Fraction(1, weight) for weight in book.weights), told)
        self.assertEqual((mass(order).top, mass(order).bottom), (told.numerator, told.denominator))
        for one, other in combinations(book.ideals, 2):
            self.assertIs(are_one_class(one, other), False)
        self.assertIs(is_book(order, book.ideals), True)
        self.assertEqual(str(book), f"book of {len(book)} classes: weights {' '.join(map(str, book.weights))}")
        self.assertEqual(list(book), list(book.ideals))
        self.assertEqual(book, Book(order))
        return book

    def test_small_discriminants(self):
        for primes, order in orders(150):
            self.judge(primes, order)

    def test_three_primes(self):
        found = [pair for pair in orders(500) if len(pair[0]) == 3]
        self.assertGreater(len(found), 15)
        for primes, order in found:
            self.judge(primes, order)

    def test_led_orders(self):
        draw = random.Random(81)
        for primes, order in ((11,), GREAT), ((2,), HURWITZ), ((37,), greatest_over(plain_order(placed((37,))))):
            for size in (9, SIXTY):
                self.judge(primes, led(order, random_four(draw, order.algebra, size)))

    def test_index(self):
        draw = random.Random(82)
        for primes, order in list(orders(150))[::5] + [((2, 3, 5), greatest_over(plain_order(placed((2, 3, 5)))))]:
            book = Book(order)
            for at, ideal in enumerate(book.ideals):
                self.assertEqual(book.index(ideal), at)
                for size in (5, 10 ** 10):
                    other = ideal.by(random_four(draw, order.algebra, size, size))
                    self.assertEqual(book.index(other), at)
                    self.assertIs(other in book, False)
                self.assertIs(ideal in book, True)
            for ideal in ideals_of(order, 6):
                self.assertIs(are_one_class(book.ideals[book.index(ideal)], ideal), True)
        book = Book(GREAT)
        self.assertEqual(book.index(GREAT.by(random_four(draw, ELEVEN, SIXTY, SIXTY))), 0)

    def test_each_class_is_reached(self):
        # [8.4]
        for primes, order in list(orders(120))[::6]:
            book = Book(order)
            prime = next(prime for prime in (2, 3, 5, 7, 11, 13) if prime not in primes)
            reached, left = {0}, [0]
            while left:
                at = left.pop()
                for step in neighbours(book.order_at(at), prime):
                    to = book.index(book.ideals[at] * step)
                    if to not in reached:
                        reached.add(to)
                        left.append(to)
            self.assertEqual(len(reached), len(book))

    def test_ramified_ideals(self):
        # [8.7]
        for primes, order in list(orders(110))[::4]:
            for prime in primes:
                if prime <= 13:
                    only, = neighbours(order, prime)
                    self.assertEqual(only.right_order(), order)
                    self.assertEqual(only * only, order.scaled(prime))

    def test_equality(self):
        book, other = Book(GREAT), Book(led(GREAT, Four(ELEVEN, (1, 2, 0, 0))))
        self.assertIs(book == Book(Lattice(Algebra(-1, -11), GREAT.basis())), True)
        self.assertIs(book != Book(GREAT), False)
        self.assertIs(book == other, False)
        self.assertIs(book != other, True)
        for value in VALUES:
            if not isinstance(value, Book):
                self.assertIs(book == value, False)
            self.assertIs(value in book, value == GREAT if isinstance(value, Lattice) else False)
        for value in NO_LATTICES + (HURWITZ, GREAT.scaled(2), PLAIN, book.ideals):
            self.assertIs(value in book, False)

    def test_refused(self):
        self.assertEqual(classes.MAX_CLASSES, 12)
        for value in NO_DEFINITE:
            self.error_of(InvalidOrder, Book, value)
            self.error_of(InvalidOrder, is_book, value, None)
            self.error_of(InvalidOrder, mass, value)
        for primes in ((149,), (151,), (163,), (1009,), (2, 3, 5, 7, 11), (2, 3, 83), (5, 7, 11)):
            self.assertGreater(rule(primes), 12)
            order = greatest_over(plain_order(placed(primes)))
            for function, rest in ((Book, ()), (is_book, (None,)), (is_book, ((order,) * 13,))):
                self.assertEqual(self.error_of(TooMany, function, order, *rest).most, 12)
            self.assertEqual(mass(order), Ratio(rule_mass(primes), 24))
        book = Book(GREAT)
        for value in NO_LATTICES + (PLAIN, HURWITZ, plain_order(ELEVEN), led(GREAT, Four(ELEVEN, (1, 2, 0, 0))), GREAT.ahead(Four(ELEVEN, (1, 2, 0, 0)))):
            self.error_of(InvalidIdeal, book.index, value)
        for value in NO_INTEGERS + TOO_LONG + (-1, 2, 3, SIXTY):
            self.no_number(value, book.order_at, value)
            self.no_number(value, book.lead, value, -5)
            self.no_number(value, book.lead, 1, value)


def rule_mass(primes):
    product = 1
    for prime in primes:
        product *= prime - 1
    return product


class Kinds(Case):

    def test_kinds_and_leads(self):
        # [8.6]
        for primes, order in list(orders(140))[::3] + [pair for pair in orders(400) if len(pair[0]) == 3][::3]:
            book = Book(order)
            kinds = book.kinds()
            self.assertEqual([type(kinds)] + [type(kind) for kind in kinds], [tuple] * (len(kinds) + 1))
            self.assertEqual(sorted(at for kind in kinds for at in kind), list(range(len(book))))
            self.assertEqual([kind[0] for kind in kinds], sorted(kind[0] for kind in kinds))
            for kind in kinds:
                self.assertEqual(list(kind), sorted(kind))
                self.assertIn(len(kind), [2 ** many for many in range(len(primes) + 1)])
            home = {at: kind for kind in kinds for at in kind}
            for at in range(len(book)):
                for to in range(len(book)):
                    four = book.lead(at, to)
                    self.assertIs(four is not None, home[at] == home[to], (primes, at, to))
                    if four is not None:
                        self.assertEqual(led(book.order_at(at), four), book.order_at(to))
                        self.assertTrue(all(abs(part) <= SIXTY for part in four.entries + (four.bottom,)))

    def test_leads_of_led_orders(self):
        draw = random.Random(84)
        for primes in ((2, 3, 5), (2, 3, 7), (2, 5, 7), (17,), (37,), (61,)):
            for size in (3, 10 ** 12):
                best = greatest_over(plain_order(placed(primes)))
                order = led(best, random_four(draw, best.algebra, size, 5))
                book = Book(order)
                self.assertEqual(sorted(map(len, book.kinds())), sorted(map(len, Book(best).kinds())))
                for kind in book.kinds():
                    for at in kind:
                        for to in kind:
                            four = book.lead(at, to)
                            self.assertEqual(led(book.order_at(at), four), book.order_at(to))

    def test_unlike_kinds_by_norms(self):
        # Orders of one kind have equally many fours of each norm; here the kinds are told by the numbers.
        for primes in ((11,), (17,), (37,), (43,)):
            book = Book(greatest_over(plain_order(placed(primes))))
            told = [counts_to(book.order_at(at), 40) for at in range(len(book))]
            self.assertEqual(len(set(told)), len(book.kinds()))

    def test_rows_that_are_not_true(self):
        # [8.8]
        book = Book(greatest_over(plain_order(placed((29,)))))
        self.assertEqual((len(book.kinds()), sorted(book.weights)[:2]), (3, [2, 2]))
        book = Book(greatest_over(plain_order(placed((2, 3, 5)))))
        self.assertEqual((len(book), len(book.kinds())), (2, 1))
        book = Book(greatest_over(plain_order(placed((13,)))))
        self.assertEqual((len(book), book.weights), (1, (2,)))
        self.assertIsNone(Book(GREAT).lead(0, 1))


class JudgedBooks(Case):

    def test_books_and_near_ones(self):
        draw = random.Random(83)
        for primes in ((11,), (17,), (23,), (37,), (2, 3, 5), (47,)):
            order = greatest_over(plain_order(placed(primes)))
            ideals = Book(order).ideals
            moved = tuple(ideal.by(random_four(draw, order.algebra, 9, 9)) for ideal in ideals)
            for value in list(permutations(ideals))[:6] + [moved, moved[::-1], moved[:1] + ideals[1:]]:
                self.assertIs(is_book(order, tuple(value)), True)
            other = led(order, random_four(draw, order.algebra, 5))
            for value in (
                (), ideals[1:], ideals + ideals[:1], moved[:1] + ideals[:-1], (order,) * len(ideals), ideals[:-1] + (ideals[0].scaled(2),),
                list(ideals), ideals[:-1] + (None,), ideals[:-1] + (plain_order(order.algebra),), ideals[:-1] + (HURWITZ,),
                Book(other).ideals, ideals[:-1] + (ideals[-1].mates(),), {at: ideal for at, ideal in enumerate(ideals)}, Book(order),
                order, (ideals,), ideals[:-1] + (True,), ideals * 400,
            ):
                if value != ideals and not self.is_told(order, value):
                    self.assertIs(is_book(order, value), False)
            # The mates of a book of one class and so on are judged by the words.
            mates = tuple(ideal.mates() for ideal in ideals)
            self.assertIs(is_book(order, mates), self.is_told(order, mates))

    def is_told(self, order, value):
        if not isinstance(value, tuple) or not all(isinstance(ideal, Lattice) for ideal in value):
            return False
        if not value or not all(ideal.algebra == order.algebra and ideal.left_order() == order for ideal in value):
            return False
        if any(are_one_class(one, other) for one, other in combinations(value, 2)):
            return False
        total = sum(Fraction(1, len(units(ideal.right_order()))) for ideal in value)
        return (total.numerator, total.denominator) == (mass(order).top, mass(order).bottom)

    def test_every_value(self):
        for value in VALUES:
            self.assertIs(is_book(GREAT, value), False)
            self.assertIs(is_book(HURWITZ, value), False)
        self.assertIs(is_book(HURWITZ, (HURWITZ,)), True)
        self.assertIs(is_book(HURWITZ, (HURWITZ.by(Four(HAMILTON, (1, 2, 0, 3), 5)),)), True)
        self.assertIs(is_book(HURWITZ, (PLAIN,)), False)
        self.assertIs(is_book(HURWITZ, (HURWITZ.ahead(ONE + I + J),)), False)


class Rule(Case):

    def test_numbers_of_classes(self):
        primes = primes_to(80)
        for some in [(prime,) for prime in primes_to(500)] + list(combinations(primes, 3))[::7] + list(combinations(primes[:9], 5)):
            self.assertEqual(classes_by_rule(some), rule(some), some)
        self.assertEqual(classes_by_rule((999999937,)), rule_of_great(999999937))
        for some in ((2, 3, 5, 7, 11, 13, 17), (2, 3, 5, 7, 11, 13, 17, 19, 103), (2, 21107, 23687)):
            self.assertEqual(classes_by_rule(some), rule(some))

    def test_refused(self):
        wrong = VALUES + (
            (2, 3), (2, 3, 5, 7), (3, 2, 5), (2, 2, 3), (2, 5, 3), (1,), (4,), (2, 3, 9), (0,), (0, 2, 3), (-2,), (True,), (2, 3, True),
            [2], [2, 3, 5], (2, 3, None), (2, 3, "5"), ((2,),), ("2",), (Ratio(2),), (10 ** 9 + 7,), (2, 3, 999999937), (31607, 31627, 31643),
            (2, 31607, 31627), (3, 5, 10 ** 99), {2: 1}, "2", (2, 3, 5, 7, 11, 13, 17, 19, 107), (1000003, 1000033, 1000037), 2,
        )
        for value in wrong:
            self.error_of(InvalidOperation, classes_by_rule, value)


def rule_of_great(prime):
    """The number of classes for one great prime, by what it leaves by 12."""
    return (prime - 1) // 12 + {1: 0, 5: 1, 7: 1, 11: 2}[prime % 12]


if __name__ == "__main__":
    unittest.main()
