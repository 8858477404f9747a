"""Norms in definite algebras: stage 6."""

import random
import unittest
from itertools import product

from signfours.base.ratios import Ratio, made_ratio
from signfours.errors import InvalidLattice, InvalidNumber, InvalidOrder, Refused, TooMany
from signfours.four.fours import Algebra, Four
from signfours.order import norms
from signfours.order.lattices import Lattice
from signfours.order.norms import count_fours, counts_to, fours_of, least_weight, units
from signfours.order.orders import greatest_over, plain_order
from signfours.split.tables import algebra_at
from tests.support import (
    Case, ELEVEN, GREAT, HALF, HAMILTON, HURWITZ, I, J, K, NO_INTEGERS, NO_LATTICES, ONE, PLAIN, SIXTY, SPLIT, TEN, TOO_LONG,
    led, random_four, random_lattice,
)

DEFINITE = (HAMILTON, ELEVEN, Algebra(-1, -3), Algebra(-2, -5), Algebra(-7, -13), Algebra(-30, -77), Algebra(-4, -12))
NO_WEIGHTS = NO_INTEGERS + TOO_LONG + (-1, 201, -200, 10 ** 9)


def sum_of_divisors(number, but=()):
    return sum(one for one in range(1, number + 1) if number % one == 0 and all(one % part for part in but))


def listed(lattice, most):
    """The fours of weights to a bound, by a search through all multiples of the diagonal's rows."""
    algebra, bottom = lattice.algebra, lattice.bottom
    weights = (1, -algebra.a, -algebra.b, algebra.a * algebra.b)
    norm = lattice.lattice_norm()
    room = most * norm.top * bottom * bottom // norm.bottom
    sizes = [int((room / weight) ** 0.5) + 1 for weight in weights]
    found = {}
    for w in range(-sizes[0], sizes[0] + 1):
        for x in range(-sizes[1], sizes[1] + 1):
            for y in range(-sizes[2], sizes[2] + 1):
                for z in range(-sizes[3], sizes[3] + 1):
                    worth = weights[0] * w * w + weights[1] * x * x + weights[2] * y * y + weights[3] * z * z
                    if worth <= room:
                        four = Four(algebra, (w, x, y, z), bottom)
                        if four in lattice:
                            found.setdefault((four.norm.over(norm)).top, []).append(((w, x, y, z), four))
    return {weight: tuple(four for _, four in sorted(fours, key=lambda pair: pair[0])) for weight, fours in found.items()}


class Fours(Case):

    def lattices(self):
        draw = random.Random(51)
        for algebra in DEFINITE:
            best = greatest_over(plain_order(algebra))
            four = random_four(draw, algebra, 3)
            yield from (plain_order(algebra), best, led(best, four), best.by(four), best.scaled(Ratio(3, 2)), best & led(best, four))
            yield Lattice(algebra, best.scaled(2).basis() + algebra.basis()[:1])
            for _ in range(3):
                yield random_lattice(draw, algebra, 2, 2)

    def test_against_a_search(self):
        for lattice in self.lattices():
            most = 5
            algebra, norm = lattice.algebra, lattice.lattice_norm()
            # The search takes long for fine lattices.
            while most > 0 and (most * norm.top * lattice.bottom ** 2 // norm.bottom) ** 2 > 2000 * abs(algebra.a * algebra.b):
                most -= 1
            found = listed(lattice, most)
            counts = counts_to(lattice, most)
            self.assertIs(type(counts), tuple)
            self.assertEqual(counts, tuple(len(found.get(weight, ())) for weight in range(most + 1)))
            for weight in range(most + 1):
                self.assertEqual(fours_of(lattice, weight), found.get(weight, ()))
                self.assertEqual(count_fours(lattice, weight), counts[weight])

    def test_members_and_order(self):
        for lattice in self.lattices():
            norm = lattice.lattice_norm()
            counts = counts_to(lattice, 60)
            self.assertEqual(counts[0], 1)
            for weight in (0, 1, 2, 7, 12, 31, 60):
                fours = fours_of(lattice, weight)
                self.assertIs(type(fours), tuple)
                self.assertEqual(len(fours), counts[weight])
                self.assertEqual(count_fours(lattice, weight), counts[weight])
                told = [tuple(made_ratio(part, four.bottom) for part in four.entries) for four in fours]
                for one, other in zip(told, told[1:]):
                    first = next(left.compared(right) for left, right in zip(one, other) if left != right)
                    self.assertEqual(first, -1)
                for four in fours:
                    self.assertIn(four, lattice)
                    self.assertEqual(four.norm, norm * weight)

    def test_weights_to_the_bound(self):
        # [6.6]
        self.assertEqual(norms.MAX_WEIGHT, 200)
        counts = counts_to(HURWITZ, 200)
        self.assertEqual(counts[1:], tuple(24 * sum_of_divisors(n, (2,)) for n in range(1, 201)))
        counts = counts_to(PLAIN, 200)
        self.assertEqual(counts[1:], tuple(8 * sum_of_divisors(n, (4,)) for n in range(1, 201)))
        for prime, many in ((2, 24), (3, 12), (5, 6), (7, 4), (13, 2)):
            order = greatest_over(plain_order(algebra_at((0, prime))))
            self.assertEqual(
                counts_to(order, 200), (1,) + tuple(many * sum_of_divisors(n, (prime,)) for n in range(1, 201)))
            self.assertEqual(len(units(order)), many)
        for weight in (200, 199, 195, 189):
            fours = fours_of(HURWITZ, weight)
            self.assertEqual(len(fours), 24 * sum_of_divisors(weight, (2,)))
            self.assertEqual(len({(four.entries, four.bottom) for four in fours}), len(fours))

    def test_great_lattices(self):
        draw = random.Random(52)
        for algebra in (HAMILTON, ELEVEN, Algebra(-(10 ** 9), -(10 ** 9) + 1)):
            four = random_four(draw, algebra, SIXTY, SIXTY)
            for lattice in (
                plain_order(algebra), Lattice(algebra, plain_order(algebra).basis() + (Four(algebra, (1, 1, 1, 1), 10 ** 20),)),
                random_lattice(draw, algebra, 10 ** 20, 10 ** 20), random_lattice(draw, algebra, SIXTY, 7, 6),
            ):
                counts = counts_to(lattice, 30)
                # [6.5]
                self.assertEqual(counts_to(lattice.by(four), 30), counts)
                self.assertEqual(counts_to(lattice.ahead(four), 30), counts)
                self.assertEqual(counts_to(lattice.mates(), 30), counts)
                self.assertEqual(counts_to(lattice.scaled(Ratio(SIXTY, 2)), 30), counts)
                found = fours_of(lattice.by(four), 25)
                self.assertEqual(len(found), counts[25])
                self.assertEqual(
                    sorted((part.entries, part.bottom) for part in found),
                    sorted(((one * four).entries, (one * four).bottom) for one in fours_of(lattice, 25)))

    def test_long_rows(self):
        # Lattices whose integers are shortened by their first digits: the same lattices from short fours.
        draw = random.Random(54)
        for algebra in (HAMILTON, ELEVEN, Algebra(-(10 ** 9), -(10 ** 9) + 1)):
            for size in (10 ** 30, SIXTY):
                for lattice in (plain_order(algebra), random_lattice(draw, algebra, 3, 3)):
                    one, other = (random_four(draw, algebra, size, size) for _ in range(2))
                    long = lattice.by(one).ahead(other).by(one.mate())
                    self.assertEqual(counts_to(long, 40), counts_to(lattice, 40))
                    if any(counts_to(lattice, 200)[1:]):
                        self.assertEqual(least_weight(long), least_weight(lattice))
                    four = other * lattice.basis()[0] * (one * one.mate())
                    weight = four.norm.over(long.lattice_norm())
                    if weight.compared(200) < 1:
                        self.assertIn(four, fours_of(long, weight.top))

    def test_multiples_of_the_units(self):
        # [6.4], [6.5]
        for lattice in self.lattices():
            counts = counts_to(lattice, 25)
            for order in (lattice.left_order(), lattice.right_order()):
                many = len(units(order))
                self.assertTrue(all(count % many == 0 for count in counts[1:]))
            four = random_four(random.Random(53), lattice.algebra, 9, 5)
            for other in (lattice.by(four), lattice.ahead(four), lattice.mates(), lattice.scaled(Ratio(-5, 7))):
                self.assertEqual(counts_to(other, 25), counts)

    def test_least_weights(self):
        for lattice in self.lattices():
            counts = counts_to(lattice, 200)
            found = [weight for weight in range(1, 201) if counts[weight]]
            if found:
                self.assertEqual(least_weight(lattice), found[0])
            else:
                self.assertEqual(self.error_of(TooMany, least_weight, lattice).most, 200)
        for rows, told in (
            (((14, 0, 0, 0), (0, 14, 0, 0), (0, 0, 280, 0), (0, 0, 0, 281)), 196),
            (((10, 10, 0, 0), (10, -10, 0, 0), (0, 0, 101, 0), (0, 0, 0, 301)), 200),
            (((14, 2, 1, 0), (0, 301, 0, 0), (0, 0, 303, 0), (0, 0, 0, 305)), None),
            (((15, 0, 0, 0), (0, 15, 0, 0), (0, 0, 280, 0), (0, 0, 0, 281)), None),
            (((10 ** 30, 0, 0, 0), (0, 10 ** 30, 0, 0), (0, 0, 10 ** 31, 0), (0, 0, 0, 10 ** 31 + 1)), None),
        ):
            lattice = Lattice(HAMILTON, tuple(Four(HAMILTON, row) for row in rows))
            self.assertEqual(lattice.lattice_norm(), 1)
            if told is None:
                self.assertEqual(self.error_of(TooMany, least_weight, lattice).most, 200)
                self.assertEqual(counts_to(lattice, 200), (1,) + (0,) * 200)
            else:
                self.assertEqual(least_weight(lattice), told)

    def test_units(self):
        # [6.3]
        for order in (PLAIN, HURWITZ, GREAT, plain_order(ELEVEN), led(HURWITZ, Four(HAMILTON, (1, 2, 0, 3)))):
            found = units(order)
            self.assertEqual(found, fours_of(order, 1))
            told = {(four.entries, four.bottom) for four in found}
            for one, other in product(found, found):
                made = one * other
                self.assertIn((made.entries, made.bottom), told)
            self.assertTrue(all((four.mate().entries, four.mate().bottom) in told for four in found))
        self.assertEqual([len(units(PLAIN)), len(units(HURWITZ)), len(units(GREAT))], [8, 24, 4])
        self.assertIn(HALF, units(HURWITZ))

    def test_units_of_greatest_orders(self):
        for places in ((0, 2), (0, 3), (0, 5), (0, 7), (0, 11), (0, 13), (0, 17), (0, 19), (0, 23), (0, 29), (0, 2, 3, 5), (0, 2, 3, 7)):
            many = len(units(greatest_over(plain_order(algebra_at(places)))))
            self.assertIn(many, (24,) if places == (0, 2) else (12,) if places == (0, 3) else (2, 4, 6))

    def test_rows_that_are_not_true(self):
        # [6.7], and of [0.19]: 2 is no norm from a greatest order at 11.
        self.assertEqual([count_fours(order, 2) for order in (GREAT, self.other_order())], [4, 0])

    def other_order(self):
        """The greatest order at 11 with six units."""
        for x, y, z in product(range(-3, 4), repeat=3):
            four = Four(ELEVEN, (2, x, y, z), 2)
            ideal = Lattice(ELEVEN, GREAT.scaled(2).basis() + GREAT.by(four).basis()) if four.norm else GREAT
            if len(units(ideal.right_order())) == 6:
                return ideal.right_order()
        return None


class Errors(Case):

    def test_lattices(self):
        for function in (fours_of, count_fours, counts_to):
            for value in NO_LATTICES:
                self.error_of(InvalidLattice, function, value, -1)
            for value in NO_WEIGHTS:
                self.no_number(value, function, HURWITZ, value)
                self.no_number(value, function, plain_order(SPLIT), value)
            for algebra in (SPLIT, TEN, Algebra(3, -7)):
                self.assertEqual(self.error_of(Refused, function, plain_order(algebra), 3).reason, ("definite",))
        for value in NO_LATTICES:
            self.error_of(InvalidLattice, least_weight, value)
            self.error_of(InvalidOrder, units, value)
        for lattice in (PLAIN.scaled(2), HURWITZ.scaled(Ratio(1, 2)), plain_order(SPLIT).scaled(3), Lattice(HAMILTON, (ONE, I, J, K.scaled(2)))):
            self.error_of(InvalidOrder, units, lattice)
        for function in (least_weight, units):
            for algebra in (SPLIT, TEN):
                self.assertEqual(self.error_of(Refused, function, plain_order(algebra)).reason, ("definite",))

    def test_too_many_fours(self):
        # No lattice is known here with more than 8064 fours of a weight of at most 200; the bound is asked all the same.
        self.assertLessEqual(max(counts_to(HURWITZ, 200)), 10000)
        many = norms.MOST_FOURS
        self.assertEqual(many, 10000)
        try:
            norms.MOST_FOURS = 23
            self.error_of(TooMany, fours_of, HURWITZ, 1)
            norms.MOST_FOURS = 24
            self.assertEqual(len(fours_of(HURWITZ, 1)), 24)
        finally:
            norms.MOST_FOURS = many

    def test_numbers(self):
        self.assertIs(type(count_fours(PLAIN, 0)), int)
        self.assertEqual((count_fours(PLAIN, 0), counts_to(PLAIN, 0), fours_of(PLAIN, 0)), (1, (1,), (ONE - ONE,)))
        self.error_of(InvalidNumber, counts_to, PLAIN, 201)


if __name__ == "__main__":
    unittest.main()
