"""How long calls take at the bounds that the document lets. The limits are far above what is measured."""

import random
import time
import unittest
from math import gcd, prod

from signfours.base.numbers import square_free
from signfours.desk.desk import Desk
from signfours.form.threes import form_lead, is_turning_basis, three_form, turning_basis, value_counts
from signfours.form.twos import fours_with, reduced, reduced_forms, summand, trace_by_forms
from signfours.four.fours import Algebra, Four
from signfours.ideal.classes import Book, is_book
from signfours.ideal.ideals import between, ideals_of, is_ideal, neighbours
from signfours.ideal.tables import is_joined, primitive_table, table_of_neighbours, ways_table
from signfours.order.lattices import Lattice
from signfours.order.norms import count_fours, counts_to, fours_of, least_weight, units
from signfours.order.orders import greater, greatest_over, is_order, outside, plain_order
from signfours.split.alike import common_root, images, joined, root_paper
from signfours.split.points import point_on, small_point
from signfours.split.tables import algebra_at, table_pair, zero_norm
from signfours.text.formats import read_lattice, write_lattice
from signfours.whole.hurwitz import common, divided, exchange, factors_along, is_factors
from signfours.whole.points import exchange_order, points_of
from signfours.whole.squares import count_whole, four_squares, three_squares, two_squares
from signfours.whole.webs import Web
from tests.support import Case, ELEVEN, GREAT, HALF, HAMILTON, HURWITZ, ONE, SIXTY, led, random_four, random_lattice
from tests.test_classes import placed


class Times(Case):

    def quick(self, limit, function, *arguments):
        """The result, told within a limit of seconds at the best of three times."""
        best = None
        for _ in range(3):
            start = time.perf_counter()
            result = function(*arguments)
            taken = time.perf_counter() - start
            best = taken if best is None else min(best, taken)
        self.assertLess(best, limit, (function.__name__, arguments))
        return result

    def test_small_points(self):
        # A search through all x and y takes about 30 thousandths of a second at these two.
        self.assertIsNone(self.quick(0.002, small_point, 199, 197, 193))
        self.assertIsNone(self.quick(0.002, small_point, 178, 179, 193))
        draw = random.Random(101)
        drawn = []
        while len(drawn) < 4000:
            numbers = [draw.randint(1, 200) for _ in range(3)]
            if all(square_free(number) == number for number in numbers) and gcd(numbers[0], prod(numbers[1:])) == gcd(*numbers[1:]) == 1:
                drawn.append(tuple(numbers))

        def all_points():
            return [small_point(*numbers) for numbers in drawn]

        found = self.quick(1.6, all_points)
        told = [numbers for numbers, point in zip(drawn, found) if point is not None]
        self.assertGreater(len(told), 100)
        for numbers in told[:300]:
            self.quick(0.004, small_point, *numbers)

    def test_points_and_tables(self):
        for a, b in ((999983, -999983), (10 ** 6, -999983), (999999, -998000)):
            self.quick(0.1, point_on, a, b)
            self.quick(0.1, table_pair, Algebra(a, b))
            self.quick(0.1, zero_norm, Algebra(a, b))
        for places in ((0, 2, 3, 5), (19, 23, 29, 17), (0, 29)):
            self.quick(0.1, algebra_at, tuple(sorted(places)))

    def test_alike(self):
        for one, other in (((-3570, -9797), (-9797, -3570)), ((2310, -3570), (8398, 9240)), ((-9973, -9967), (-9967, -9973))):
            self.quick(0.3, images, Algebra(*one), Algebra(*other))
            self.quick(0.3, common_root, Algebra(*one), Algebra(*other))
            self.quick(0.3, root_paper, Algebra(*one), -9999)
        self.quick(0.3, joined, Algebra(9973, -9699), Algebra(1, 1))

    def test_lattices(self):
        draw = random.Random(102)
        for bottom in (1, SIXTY):
            fours = tuple(random_four(draw, ELEVEN, SIXTY, bottom) for _ in range(40))
            self.quick(0.5, Lattice, ELEVEN, fours)
            one, other = Lattice(ELEVEN, fours[:4]), Lattice(ELEVEN, fours[4:8])
            for deed in (
                lambda: one + other, lambda: one & other, lambda: one * other, one.left_order, one.right_order, one.mates,
                one.lattice_norm, lambda: one.holds(other), lambda: one.index_in(other), lambda: one.by(fours[9]),
            ):
                self.quick(0.5, deed)
            self.quick(0.5, is_order, one.left_order())
            self.quick(0.5, outside, one)
            self.quick(0.5, is_ideal, one)

    def test_greatest_orders(self):
        draw = random.Random(103)
        for a, b in ((500, 500), (-500, -500), (1, -250000), (486, -512), (-3, -83333)):
            order = plain_order(Algebra(a, b))
            self.quick(0.3, greatest_over, order)
            self.quick(0.3, greater, order)
            self.quick(0.5, greatest_over, led(order, random_four(draw, order.algebra, SIXTY)))

    def test_norms(self):
        self.quick(0.6, counts_to, HURWITZ, 200)
        self.assertEqual(len(self.quick(1, fours_of, HURWITZ, 195)), 8064)
        self.quick(0.5, count_fours, HURWITZ, 200)
        four = Four(ELEVEN, (SIXTY, 7, 5, -SIXTY), SIXTY - 1)
        self.quick(1, counts_to, GREAT.by(four), 200)
        self.quick(1, least_weight, GREAT.by(four))
        self.quick(1, units, led(GREAT, four))
        draw = random.Random(105)
        for many in (4, 8, 40):
            lattice = Lattice(ELEVEN, tuple(random_four(draw, ELEVEN, SIXTY, SIXTY) for _ in range(many)))
            self.quick(2, counts_to, lattice, 200)
            self.quick(2, fours_of, lattice.scaled(SIXTY), 200)

    def test_ideals(self):
        for order in (HURWITZ, GREAT, greatest_over(plain_order(Algebra(2, 5))), led(GREAT, Four(ELEVEN, (1, 2, 0, 3)))):
            for norm in (16, 24, 28, 29, 30):
                self.quick(0.4, ideals_of, order, norm)
            self.quick(0.2, neighbours, order, 13)
        four = Four(ELEVEN, (SIXTY, 7, 5, -SIXTY), SIXTY - 1)
        self.quick(2, between, GREAT.by(four.inverse()), GREAT.by(four))

    def test_books(self):
        for primes in ((137,), (139,), (2, 5, 37), (2, 3, 59), (3, 5, 19)):
            order = greatest_over(plain_order(placed(primes)))
            book = self.quick(1.5, Book, order)
            self.quick(1.5, is_book, order, tuple(ideal.by(Four(order.algebra, (1, 2, 3, 4))) for ideal in book))
            self.quick(1, book.kinds)
            self.quick(0.5, book.index, book.ideals[-1].by(Four(order.algebra, (1, 2, 3, 4))))
            # Each time a new book, for a book keeps what its tables need.
            self.quick(2, lambda: table_of_neighbours(Book(order), 30))
            self.quick(2, lambda: primitive_table(Book(order), 16))
            prime = 7 if book.order.algebra.discriminant % 7 else 11
            self.quick(0.5, ways_table, book, prime, 20)
            self.quick(0.5, is_joined, book, 29)

    def test_books_of_led_orders(self):
        draw = random.Random(104)
        for primes in ((139,), (2, 3, 59)):
            order = greatest_over(plain_order(placed(primes)))
            order = led(order, random_four(draw, order.algebra, SIXTY, SIXTY))
            book = self.quick(2, Book, order)
            self.quick(1.5, is_book, order, book.ideals)
            self.quick(1, book.kinds)
            self.quick(1, book.index, book.ideals[-1].by(random_four(draw, order.algebra, SIXTY)))
            self.quick(1, table_of_neighbours, book, 30)

    def test_forms_in_two_unknowns(self):
        draw = random.Random(106)
        self.quick(0.1, reduced_forms, 1999)
        self.quick(0.3, trace_by_forms, (2, 3, 19), 200)
        self.quick(0.1, summand, (2, 3, 19), 0, 200)
        self.quick(0.1, reduced, (SIXTY, SIXTY - 1, SIXTY))
        self.quick(1, fours_with, HURWITZ, 0, 195)
        self.quick(1, fours_with, led(GREAT, random_four(draw, ELEVEN, SIXTY, SIXTY)), 1, 200)

    def test_forms_in_three_unknowns(self):
        draw = random.Random(107)
        for form in ((1, 1, 1, 1, 1, 1), (1, 1, 1, 0, 0, 0), (1, 1, 1000000, 0, 0, 0), (1, 90001, 580001, 420600, 1400, 600)):
            self.quick(0.5, value_counts, form, 1000)
        for form in ((1, 1, 250000, 0, 0, 0), (1, 500, 500, 0, 0, 0), (1, 90001, 580001, 420600, 1400, 600), (63, 63, 63, 1, 2, 3)):
            self.assertIsNotNone(self.quick(0.2, form_lead, form, form))
        for order in (HURWITZ, greatest_over(plain_order(placed((997,))))):
            order = led(order, random_four(draw, order.algebra, SIXTY, SIXTY))
            basis = self.quick(0.5, turning_basis, order)
            self.quick(0.5, is_turning_basis, order, basis)
            self.quick(0.5, three_form, order)

    def test_whole_fours(self):
        draw = random.Random(108)
        one, other = [Four(HAMILTON, tuple(draw.randint(-SIXTY, SIXTY) for _ in range(4))) for _ in range(2)]
        self.quick(0.1, divided, one, other)
        self.quick(0.5, common, one, other)
        twos = (2,) * 397
        four = Four(HAMILTON, (2 ** 198, 0, 0, 2 ** 198))
        found = self.quick(1, factors_along, four, twos)
        self.assertTrue(self.quick(0.5, is_factors, four, twos, found))
        self.quick(0.5, factors_along, Four(HAMILTON, (30, 9, 4, 0)).power(100), (997,) * 100)
        self.quick(0.1, exchange, Four(HAMILTON, (30, 9, 4, 0)), Four(HAMILTON, (31, 3, 3, 2)))
        self.quick(0.5, points_of, 97)
        self.quick(0.5, exchange_order, one * HALF, 97 if one.norm.top % 97 else 89)

    def test_squares(self):
        for number in (99999989, 99999999, 10 ** 8, 99999997, 9999 ** 2, 9973 * 9949):
            self.quick(0.1, three_squares, number)
            self.quick(0.1, two_squares, number)
            self.quick(0.1, count_whole, number)
        self.quick(0.1, four_squares, 200)

    def test_webs(self):
        for prime, modulus in ((61, 13), (37, 13), (61, 11), (5, 13)):
            web = self.quick(0.3, Web, prime, modulus)
            self.quick(0.5, web.ways, 40)
            self.quick(0.5, web.straight_ways, 40)

    def test_desks(self):
        draw = random.Random(109)
        desk = Desk(HAMILTON)
        four = random_four(draw, HAMILTON, SIXTY, SIXTY)
        names = [one + other for one in "abcdef" for other in "abcde"]
        desk.do(*[("put", name, led(HURWITZ, four)) for name in names])
        for name in names:
            desk.say(("greatest", name))
        self.quick(3, desk.do, ("lead", random_four(draw, HAMILTON, SIXTY, SIXTY)), ("put", "one", ONE))
        self.quick(0.1, desk.twin)
        lattice = random_lattice(draw, ELEVEN, 10 ** 13, 9)
        self.quick(0.1, read_lattice, write_lattice(lattice))


if __name__ == "__main__":
    unittest.main()
