"""The main statements of the document, [0.13] to [0.19], over the whole program."""

import random
import unittest
from fractions import Fraction
from itertools import product

from signfours.base.numbers import square_free
from signfours.base.ratios import Ratio
from signfours.form.threes import are_forms_alike, three_form
from signfours.form.twos import trace_by_forms
from signfours.four.fours import Algebra, Four
from signfours.four.leading import leading
from signfours.ideal.classes import Book
from signfours.ideal.ideals import are_one_class, ideals_of, neighbours
from signfours.ideal.tables import table_of_neighbours, table_product, table_trace
from signfours.order.norms import count_fours, fours_of, units
from signfours.order.orders import greatest_over, is_greatest, is_order, order_discriminant, plain_order
from signfours.split.alike import are_alike, images, root_paper
from signfours.split.tables import algebra_at, table_pair, zero_norm
from signfours.whole.hurwitz import divided, factors_along, is_factors
from tests.support import Case, GREAT, HALF, HAMILTON, HURWITZ, I, J, ONE, SPLIT, random_four
from tests.test_classes import orders, placed


class Statements(Case):

    def test_either_tables_or_places(self):
        # [0.13]
        for a, b in product((-7, -3, -2, -1, 1, 2, 3, 5, 6), repeat=2):
            algebra = Algebra(a, b)
            self.assertEqual(len(algebra.places) % 2, 0)
            self.assertIs(algebra.is_tables, algebra.places == ())
            self.assertIs(table_pair(algebra) is not None, algebra.is_tables)
            self.assertIs(zero_norm(algebra) is not None, algebra.is_tables)
            twin = algebra_at(algebra.places)
            self.assertTrue(are_alike(algebra, twin))
            self.assertIsNotNone(images(algebra, twin))

    def test_roots(self):
        # [0.14]
        for algebra in (HAMILTON, SPLIT, Algebra(2, 5), Algebra(-1, -11)):
            for number in range(-30, 30):
                if number not in (0, 1, 4, 9, 16, 25):
                    paper = root_paper(algebra, number)
                    self.assertIn(paper[0], ("root", "place"))
                    if paper[0] == "root":
                        self.assertEqual(paper[1] * paper[1], algebra.basis()[0].scaled(number))

    def test_orders_and_classes(self):
        # [0.15] and [0.16]
        for primes, order in orders(60):
            self.assertTrue(is_greatest(order))
            plain = plain_order(order.algebra)
            self.assertEqual(order_discriminant(plain) % order.algebra.discriminant, 0)
            total = sum(Fraction(1, weight) for weight in Book(order).weights)
            told = Fraction(1, 24)
            for prime in primes:
                told *= prime - 1
            self.assertEqual(total, told)

    def test_neighbours(self):
        # [0.17]
        for primes, order in orders(43):
            book = Book(order)
            tables = {n: table_of_neighbours(book, n) for n in (2, 3, 5, 6, 10, 15)}
            for n, other in ((2, 3), (2, 5), (3, 5)):
                self.assertEqual(table_product(tables[n], tables[other]), tables[n * other])
                self.assertEqual(table_product(tables[other], tables[n]), tables[n * other])
            self.assertEqual([table_trace(tables[n]) for n in sorted(tables)], [trace_by_forms(primes, n) for n in sorted(tables)])

    def test_whole_fours(self):
        # [0.18]
        draw = random.Random(1701)
        for _ in range(60):
            one, other = random_four(draw, HAMILTON, 30), random_four(draw, HAMILTON, 9) * HALF
            other = other if other.bottom in (1, 2) and len({entry * 2 // other.bottom % 2 for entry in other.entries}) == 1 else ONE + I
            for ahead in (False, True):
                quotient, rest = divided(one, other, ahead=ahead)
                self.assertLess(rest.norm.compared(other.norm), 0)
        four = (ONE + I) * (ONE + I + J) * (ONE.scaled(2) + I)
        for primes in ((2, 3, 5), (2, 5, 3), (3, 2, 5), (3, 5, 2), (5, 2, 3), (5, 3, 2)):
            self.assertTrue(is_factors(four, primes, factors_along(four, primes)))


class NoStatements(Case):
    """The rows of [0.19], with what shows that each one is not true."""

    def test_alike_algebras(self):
        one, other = Algebra(-1, -1), Algebra(-2, -3)
        self.assertTrue(are_alike(one, other))
        self.assertNotEqual({square_free(one.a), square_free(one.b)}, {square_free(other.a), square_free(other.b)})

    def test_square_free_discriminants(self):
        order = HURWITZ & HURWITZ.ahead(ONE + I + J).by((ONE + I + J).inverse())
        self.assertTrue(is_order(order))
        self.assertEqual(order_discriminant(order), 6)
        self.assertFalse(is_greatest(order))

    def test_ideals_with_equal_norms(self):
        first = neighbours(GREAT, 2)
        self.assertFalse(all(are_one_class(first[0], other) for other in first))
        for primes in ((2,), (3,), (5,), (7,)):
            order = greatest_over(plain_order(placed(primes)))
            for norm in (2, 3, 4):
                ideals = ideals_of(order, norm)
                self.assertTrue(all(are_one_class(ideals[0], ideal) for ideal in ideals))

    def test_orders_with_equally_many_units(self):
        for primes, order in orders(30):
            book = Book(order)
            kinds = book.kinds()
            alike = len({book.weights[kind[0]] for kind in kinds}) < len(kinds)
            if primes == (29,):
                self.assertTrue(alike)
                pairs = [(one[0], other[0]) for one in kinds for other in kinds if one < other and book.weights[one[0]] == book.weights[other[0]]]
                for at, to in pairs:
                    self.assertFalse(are_forms_alike(three_form(book.order_at(at)), three_form(book.order_at(to))))
            elif primes[0] < 29 and len(primes) == 1:
                self.assertFalse(alike)

    def least_rest(self, order, four):
        """The least norm of what is left of a four if a member of the order is taken off."""
        basis = order.basis()
        best = None
        start = [Fraction(entry, four.bottom) for entry in four.entries]
        for many in product(range(-2, 4), repeat=4):
            parts = [
                own - sum(Fraction(size * one.entries[at], one.bottom) for size, one in zip(many, basis)) for at, own in enumerate(start)
            ]
            a, b = order.algebra.a, order.algebra.b
            norm = parts[0] ** 2 - a * parts[1] ** 2 - b * parts[2] ** 2 + a * b * parts[3] ** 2
            best = norm if best is None else min(best, norm)
        return best

    def test_division_with_rest(self):
        # One class, but a four that is as far from all members as 1 is from 0 or farther.
        seven = greatest_over(plain_order(Algebra(-1, -7)))
        self.assertEqual(len(Book(seven)), 1)
        # Halves of (7 + 3 sqrt(-7)) / 7 in both planes: no member is nearer than 8/7, as a norm.
        self.assertEqual(self.least_rest(seven, Four(seven.algebra, (7, 7, 3, 3), 14)), Fraction(8, 7))
        draw = random.Random(1702)
        for discriminant in (2, 3, 5):
            order = greatest_over(plain_order(placed((discriminant,))))
            for _ in range(5):
                four = order.basis()[0] - order.basis()[0]
                for one in order.basis():
                    four = four + one.scaled(Ratio(draw.randint(0, 12), 12))
                self.assertLess(self.least_rest(order, four), 1)

    def test_norms(self):
        self.assertEqual(count_fours(GREAT, 2), 4)
        other = Book(GREAT).order_at(1)
        self.assertEqual(sorted([count_fours(GREAT, 2) > 0, count_fours(other, 2) > 0]), [False, True])
        for primes in ((2,), (3,), (5,), (7,)):
            order = greatest_over(plain_order(placed(primes)))
            self.assertTrue(all(count_fours(order, norm) > 0 for norm in range(1, 40)))

    def test_left_factors(self):
        found = {min(tuple(2 * entry // part.bottom for entry in part.entries) for part in [one * unit for unit in units(HURWITZ)]) for one in fours_of(HURWITZ, 3)}
        self.assertEqual(len(found), 4)
        self.assertTrue(all(is_factors(ONE.scaled(3), (3, 3), (one, one.mate())) for one in fours_of(HURWITZ, 3)))

    def test_fours_with_equal_norms(self):
        self.assertEqual(ONE.norm, I.norm)
        self.assertIsNone(leading(ONE, I))
        self.assertIsNone(leading(HALF, I))


if __name__ == "__main__":
    unittest.main()
