"""How long calls take at the bounds that the document lets. The limits are far above what is measured."""

import random
import time
import unittest
from math import gcd, prod

from signfours.base.numbers import square_free
from signfours.four.fours import Algebra, Four
from signfours.ideal.classes import Book, is_book
from signfours.ideal.ideals import between, ideals_of, is_ideal, neighbours
from signfours.ideal.tables import is_joined, primitive_table, table_of_neighbours, ways_table
from signfours.order.lattices import Lattice
from signfours.order.norms import count_fours, counts_to, fours_of, least_weight, units
from signfours.order.orders import greater, greatest_over, is_order, outside, plain_order
from signfours.split.alike import common_root, images, joined, root_paper
from signfours.split.points import point_on, small_point
from signfours.split.tables import algebra_at, table_pair, zero_norm
from tests.support import Case, ELEVEN, GREAT, HURWITZ, SIXTY, led, random_four
from tests.test_classes import placed


class Times(Case):

    def quick(self, limit, function, *arguments):
        """The result, told within a limit of seconds at the best of three times."""
        best = None
        for _ in range(3):
            start = time.perf_counter()
            result = function(*arguments)
            taken = time.perf_counter() - start
            best = taken if best is None else min(best, taken)
        self.assertLess(best, limit, (function.__name__, arguments))
        return result

    def test_small_points(self):
        # A search through all x and y takes about 30 thousandths of a second at these two.
        self.assertIsNone(self.quick(0.002, small_point, 199, 197, 193))
        self.assertIsNone(self.quick(0.002, small_point, 178, 179, 193))
        draw = random.Random(101)
        drawn = []
        while len(drawn) < 4000:
            numbers = [draw.randint(1, 200) for _ in range(3)]
            if all(square_free(number) == number for number in numbers) and gcd(numbers[0], prod(numbers[1:])) == gcd(*numbers[1:]) == 1:
                drawn.append(tuple(numbers))

        def all_points():
            return [small_point(*numbers) for numbers in drawn]

        found = self.quick(1.6, all_points)
        told = [numbers for numbers, point in zip(drawn, found) if point is not None]
        self.assertGreater(len(told), 100)
        for numbers in told[:300]:
            self.quick(0.004, small_point, *numbers)

    def test_points_and_tables(self):
        for a, b in ((999983, -999983), (10 ** 6, -999983), (999999, -998000)):
            self.quick(0.1, point_on, a, b)
            self.quick(0.1, table_pair, Algebra(a, b))
            self.quick(0.1, zero_norm, Algebra(a, b))
        for places in ((0, 2, 3, 5), (19, 23, 29, 17), (0, 29)):
            self.quick(0.1, algebra_at, tuple(sorted(places)))

    def test_alike(self):
        for one, other in (((-3570, -9797), (-9797, -3570)), ((2310, -3570), (8398, 9240)), ((-9973, -9967), (-9967, -9973))):
            self.quick(0.3, images, Algebra(*one), Algebra(*other))
            self.quick(0.3, common_root, Algebra(*one), Algebra(*other))
            self.quick(0.3, root_paper, Algebra(*one), -9999)
        self.quick(0.3, joined, Algebra(9973, -9699), Algebra(1, 1))

    def test_lattices(self):
        draw = random.Random(102)
        for bottom in (1, SIXTY):
            fours = tuple(random_four(draw, ELEVEN, SIXTY, bottom) for _ in range(40))
            self.quick(0.5, Lattice, ELEVEN, fours)
            one, other = Lattice(ELEVEN, fours[:4]), Lattice(ELEVEN, fours[4:8])
            for deed in (
                lambda: one + other, lambda: one & other, lambda: one * other, one.left_order, one.right_order, one.mates,
                one.lattice_norm, lambda: one.holds(other), lambda: one.index_in(other), lambda: one.by(fours[9]),
            ):
                self.quick(0.5, deed)
            self.quick(0.5, is_order, one.left_order())
            self.quick(0.5, outside, one)
            self.quick(0.5, is_ideal, one)

    def test_greatest_orders(self):
        draw = random.Random(103)
        for a, b in ((500, 500), (-500, -500), (1, -250000), (486, -512), (-3, -83333)):
            order = plain_order(Algebra(a, b))
            self.quick(0.3, greatest_over, order)
            self.quick(0.3, greater, order)
            self.quick(0.5, greatest_over, led(order, random_four(draw, order.algebra, SIXTY)))

    def test_norms(self):
        self.quick(0.6, counts_to, HURWITZ, 200)
        self.assertEqual(len(self.quick(1, fours_of, HURWITZ, 195)), 8064)
        self.quick(0.5, count_fours, HURWITZ, 200)
        four = Four(ELEVEN, (SIXTY, 7, 5, -SIXTY), SIXTY - 1)
        self.quick(1, counts_to, GREAT.by(four), 200)
        self.quick(1, least_weight, GREAT.by(four))
        self.quick(1, units, led(GREAT, four))
        draw = random.Random(105)
        for many in (4, 8, 40):
            lattice = Lattice(ELEVEN, tuple(random_four(draw, ELEVEN, SIXTY, SIXTY) for _ in range(many)))
            self.quick(2, counts_to, lattice, 200)
            self.quick(2, fours_of, lattice.scaled(SIXTY), 200)

    def test_ideals(self):
        for order in (HURWITZ, GREAT, greatest_over(plain_order(Algebra(2, 5))), led(GREAT, Four(ELEVEN, (1, 2, 0, 3)))):
            for norm in (16, 24, 28, 29, 30):
                self.quick(0.4, ideals_of, order, norm)
            self.quick(0.2, neighbours, order, 13)
        four = Four(ELEVEN, (SIXTY, 7, 5, -SIXTY), SIXTY - 1)
        self.quick(2, between, GREAT.by(four.inverse()), GREAT.by(four))

    def test_books(self):
        for primes in ((137,), (139,), (2, 5, 37), (2, 3, 59), (3, 5, 19)):
            order = greatest_over(plain_order(placed(primes)))
            book = self.quick(1.5, Book, order)
            self.quick(1.5, is_book, order, tuple(ideal.by(Four(order.algebra, (1, 2, 3, 4))) for ideal in book))
            self.quick(1, book.kinds)
            self.quick(0.5, book.index, book.ideals[-1].by(Four(order.algebra, (1, 2, 3, 4))))
            # Each time a new book, for a book keeps what its tables need.
            self.quick(2, lambda: table_of_neighbours(Book(order), 30))
            self.quick(2, lambda: primitive_table(Book(order), 16))
            prime = 7 if book.order.algebra.discriminant % 7 else 11
            self.quick(0.5, ways_table, book, prime, 20)
            self.quick(0.5, is_joined, book, 29)

    def test_books_of_led_orders(self):
        draw = random.Random(104)
        for primes in ((139,), (2, 3, 59)):
            order = greatest_over(plain_order(placed(primes)))
            order = led(order, random_four(draw, order.algebra, SIXTY, SIXTY))
            book = self.quick(2, Book, order)
            self.quick(1.5, is_book, order, book.ideals)
            self.quick(1, book.kinds)
            self.quick(1, book.index, book.ideals[-1].by(random_four(draw, order.algebra, SIXTY)))
            self.quick(1, table_of_neighbours, book, 30)


if __name__ == "__main__":
    unittest.main()
