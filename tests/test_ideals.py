"""Ideals of greatest orders: [7.1] to [7.7]."""

import random
import unittest

from signfours.base.ratios import Ratio, made_ratio
from signfours.errors import InvalidFour, InvalidIdeal, InvalidOperation, InvalidOrder, TooMany
from signfours.four.fours import Algebra, Four
from signfours.ideal import ideals
from signfours.ideal.ideals import (
    are_one_class, between, generator, ideal_of, ideals_of, inverse, is_between, is_generator, is_ideal, is_primitive_in,
    neighbours,
)
from signfours.ideal.steps import null_point
from signfours.order.lattices import Lattice
from signfours.order.norms import units
from signfours.order.orders import greatest_over, is_greatest, plain_order
from tests.support import (
    Case, ELEVEN, GREAT, HALF, HAMILTON, HURWITZ, I, J, K, NO_INTEGERS, NO_LATTICES, NO_PRIMES, ONE, PLAIN, SIXTY, SPLIT, TEN,
    TOO_LONG, VALUES, led, random_four, random_lattice,
)

DEFINITE = (HAMILTON, ELEVEN, Algebra(-1, -3), Algebra(-2, -5), Algebra(-7, -13), Algebra(-1, -19))
OTHERS = (SPLIT, TEN, Algebra(3, -7), Algebra(2, 7))
BESTS = {str(algebra): greatest_over(plain_order(algebra)) for algebra in DEFINITE + OTHERS}
THIN = Lattice(HAMILTON, (ONE, I, J, K.scaled(2)))
# No lattices, and lattices that are no greatest orders, in part no ideals either.
NO_GREATEST = NO_LATTICES + (PLAIN, HURWITZ.scaled(2), HURWITZ.by(ONE + I + J), THIN, plain_order(SPLIT).scaled(3), plain_order(TEN))
NO_IDEALS = NO_LATTICES + (PLAIN, THIN, plain_order(ELEVEN), plain_order(TEN).scaled(Ratio(2, 3)), PLAIN & led(HURWITZ, ONE + I + J))


def divisor_sum(number, algebra):
    return sum(
        one for one in range(1, number + 1) if number % one == 0 and all(one % place for place in algebra.places if place))


def random_ideal(draw, order, size=9):
    """A drawn ideal of the order, most of them of none of the simple forms."""
    prime = draw.choice((2, 3, 5))
    step = draw.choice(neighbours(order, prime))
    return draw.choice((step, order)).by(random_four(draw, order.algebra, size, 3))


class Ideals(Case):

    def test_judged(self):
        draw = random.Random(61)
        for best in BESTS.values():
            for _ in range(4):
                ideal = random_ideal(draw, best)
                # [7.1]
                self.assertIs(is_ideal(ideal), True)
                self.assertEqual(ideal.left_order(), best)
                self.assertIs(is_greatest(ideal.right_order()), True)
                back = inverse(ideal)
                self.assertIs(is_ideal(back), True)
                self.assertEqual(ideal * back, best)
                self.assertEqual(back * ideal, ideal.right_order())
                self.assertEqual(inverse(back), ideal)
                self.assertEqual(back, ideal.mates().scaled(made_ratio(1, 1).over(ideal.lattice_norm())))
                for lattice in (random_lattice(draw, best.algebra, 3, 2), Lattice(best.algebra, best.scaled(3).basis() + best.algebra.basis()[:1])):
                    self.assertIs(is_ideal(lattice), is_greatest(lattice.left_order()))
        self.assertIs(is_ideal(HURWITZ.scaled(Ratio(1, 3))), True)
        self.assertIs(is_ideal(PLAIN), False)
        for value in VALUES:
            self.assertIs(is_ideal(value), value in (HURWITZ, GREAT) if isinstance(value, Lattice) else False)

    def test_products(self):
        # [7.2]
        draw = random.Random(62)
        for best in BESTS.values():
            one = random_ideal(draw, best)
            other = random_ideal(draw, one.right_order())
            made = one * other
            self.assertEqual((made.left_order(), made.right_order()), (best, other.right_order()))
            self.assertEqual(made.lattice_norm(), one.lattice_norm() * other.lattice_norm())
            self.assertEqual(inverse(made), inverse(other) * inverse(one))
            small = random_ideal(draw, best)
            if one.holds(small):
                part = small.lattice_norm().over(one.lattice_norm())
                self.assertEqual(small.index_in(one), part * part)

    def test_made_ideals(self):
        draw = random.Random(63)
        for best in BESTS.values():
            algebra = best.algebra
            for _ in range(6):
                fours = tuple(
                    Four(algebra, tuple(draw.randint(-9, 9) for _ in range(4)), draw.randint(1, 4))
                    for _ in range(draw.choice((1, 2, 3, 10))))
                if not any(four.norm for four in fours):
                    continue
                ideal = ideal_of(best, fours)
                self.assertEqual(ideal.left_order(), best)
                self.assertTrue(all(four in ideal for four in fours))
                made = best.by(next(four for four in fours if four.norm))
                for four in fours:
                    if four.norm:
                        made = made + best.by(four)
                if all(four.norm for four in fours):
                    self.assertEqual(ideal, made)
        # Two fours of the norm 0 can span together, one can not.
        one, i, j, k = SPLIT.basis()
        best = BESTS[str(SPLIT)]
        self.assertEqual(ideal_of(best, ((one + i).scaled(Ratio(1, 2)), (one - i).scaled(Ratio(1, 2)))), best)
        self.error_of(InvalidOperation, ideal_of, best, (one + i,))
        self.error_of(InvalidOperation, ideal_of, best, (one + i, (one + i).scaled(3)))

    def test_refused(self):
        self.assertEqual((ideals.MAX_STEP, ideals.MAX_NORM), (13, 30))
        for value in NO_GREATEST:
            self.error_of(InvalidOrder, ideal_of, value, None)
            self.error_of(InvalidOrder, ideal_of, value, (ONE,))
        zero = ONE - ONE
        for value in VALUES + ((), [ONE], (ONE,) * 11, (ONE, 1), (ONE, None), (1,), (True,), (ONE, ELEVEN.basis()[0]), ((ONE,),), ONE, (HURWITZ,)):
            if value not in ((ONE, I, J, K), (HALF, HALF)):
                self.error_of(InvalidFour, ideal_of, HURWITZ, value)
        self.error_of(InvalidOperation, ideal_of, HURWITZ, (zero,))
        self.error_of(InvalidOperation, ideal_of, HURWITZ, (zero,) * 10)
        self.assertEqual(ideal_of(HURWITZ, (ONE,) * 10), HURWITZ)
        for function in (inverse, generator):
            for value in NO_IDEALS:
                self.error_of(InvalidIdeal, function, value)
        for value in NO_IDEALS:
            self.error_of(InvalidIdeal, is_generator, value, None)


class Neighbours(Case):

    def judge(self, best, found, norm):
        algebra = best.algebra
        self.assertIs(type(found), tuple)
        self.assertEqual(len(found), divisor_sum(norm, algebra))
        for ideal in found:
            self.assertIs(best.holds(ideal), True)
            self.assertEqual(ideal.left_order(), best)
            self.assertEqual(ideal.lattice_norm(), norm)
        self.assertEqual(len({(ideal.bottom, ideal.rows) for ideal in found}), len(found))

    def test_neighbours(self):
        # [7.3], [7.4]
        draw = random.Random(64)
        for best in list(BESTS.values()) + [led(HURWITZ, Four(HAMILTON, (5, 2, 0, 1))), led(BESTS[str(TEN)], Four(TEN, (3, 1, 1, 1)))]:
            for prime in (2, 3, 5, 7, 11, 13):
                found = neighbours(best, prime)
                self.judge(best, found, prime)
                self.assertEqual([ideal.rows for ideal in found], sorted(ideal.rows for ideal in found))
                if best.algebra.discriminant % prime == 0:
                    self.assertEqual(found[0].right_order(), best)
                    self.assertEqual(found[0] * found[0], best.scaled(prime))
                ideal = draw.choice(found)
                self.assertIs(ideal.holds(best.scaled(prime)), True)
                for four in ideal.basis():
                    if four not in best.scaled(prime):
                        self.assertEqual(ideal_of(best, (four, best.algebra.basis()[0].scaled(prime))), ideal)

    def test_all_norms(self):
        for best in BESTS.values():
            for norm in range(1, 31):
                found = ideals_of(best, norm)
                self.judge(best, found, norm)
                pairs = [(ideal.bottom, ideal.rows) for ideal in found]
                self.assertEqual(pairs, sorted(pairs))
            self.assertEqual(ideals_of(best, 1), (best,))

    def test_ideals_within_ideals(self):
        # [7.4]
        for best in (HURWITZ, GREAT, BESTS[str(TEN)]):
            for m, n in ((2, 3), (3, 4), (2, 2), (5, 3), (3, 3)):
                above = ideals_of(best, m)
                for ideal in ideals_of(best, m * n):
                    many = [one.holds(ideal) for one in above].count(True)
                    self.assertGreaterEqual(many, 1)
                    if m != n:
                        self.assertEqual(many, 1)

    def test_great_orders(self):
        four = Four(ELEVEN, (SIXTY, 1 - SIXTY, 77, 10 ** 30), 3)
        order = led(GREAT, four)
        self.judge(order, neighbours(order, 3), 3)
        self.judge(order, ideals_of(order, 12), 12)
        self.assertEqual(
            {str(ideal.ahead(four).by(four.inverse())) for ideal in ideals_of(GREAT, 6)}, {str(ideal) for ideal in ideals_of(order, 6)})

    def test_refused(self):
        for value in NO_GREATEST:
            self.error_of(InvalidOrder, neighbours, value, 0)
            self.error_of(InvalidOrder, ideals_of, value, 0)
        for value in NO_PRIMES:
            self.no_number(value, neighbours, HURWITZ, value)
        for prime in (17, 19, 101, 999999937):
            self.assertEqual(self.error_of(TooMany, neighbours, HURWITZ, prime).most, 13)
        for value in NO_INTEGERS + TOO_LONG + (0, -1, -30, -SIXTY):
            self.no_number(value, ideals_of, HURWITZ, value)
        for norm in (31, 32, 10 ** 9 + 1, SIXTY):
            self.assertEqual(self.error_of(TooMany, ideals_of, HURWITZ, norm).most, 30)

    def test_rows_that_are_not_true(self):
        # [7.7]
        self.assertEqual([generator(ideal) is None for ideal in neighbours(GREAT, 2)].count(True), 2)
        self.assertEqual(len(ideals_of(HURWITZ, 6)), 4)
        ideal = next(ideal for ideal in neighbours(GREAT, 2) if generator(ideal) is None)
        self.assertIs(is_ideal(ideal) and ideal.right_order() != GREAT, True)
        made = {str(one * other) for one in neighbours(HURWITZ, 3) for other in neighbours(HURWITZ, 3)}
        self.assertFalse({str(one) for one in ideals_of(HURWITZ, 9)} <= made)


class NullPoints(Case):

    def test_points_modulo_primes(self):
        draw = random.Random(70)
        for prime in (2, 3, 5, 7):
            for _ in range(300):
                table = [[0] * 4 for _ in range(4)]
                for at in range(4):
                    table[at][at] = 2 * draw.randrange(prime)
                    for to in range(at):
                        table[at][to] = table[to][at] = draw.choice((0, draw.randrange(prime)))
                point = null_point(table, prime)
                self.assertTrue(any(part % prime for part in point))
                worth = sum(table[at][to] * point[at] * point[to] for at in range(4) for to in range(4))
                self.assertEqual(worth // 2 % prime, 0)


class Primitive(Case):

    def test_against_the_words(self):
        # [7.6]
        draw = random.Random(65)
        for best in BESTS.values():
            for ideal in (best, random_ideal(draw, best)):
                right = ideal.right_order()
                for norm in (1, 2, 4, 9, 12, 16, 25):
                    for step in ideals_of(right, norm)[::3]:
                        other = ideal * step
                        parts = [m for m in range(2, norm + 1) if ideal.scaled(m).holds(other)]
                        self.assertIs(is_primitive_in(ideal, other), not parts)
                        if parts:
                            self.assertIs(is_primitive_in(ideal, other.scaled(Ratio(1, max(parts)))), True)

    def test_refused(self):
        other = neighbours(GREAT, 3)[0]
        for value in NO_IDEALS:
            self.error_of(InvalidIdeal, is_primitive_in, value, None)
            self.error_of(InvalidIdeal, is_primitive_in, HURWITZ, value)
        for value in (other.right_order(), HURWITZ, led(GREAT, Four(ELEVEN, (1, 2, 3, 0)))):
            self.error_of(InvalidIdeal, is_primitive_in, GREAT, value)
        self.error_of(InvalidOperation, is_primitive_in, other, GREAT)
        self.error_of(InvalidOperation, is_primitive_in, GREAT, GREAT.scaled(Ratio(1, 2)))
        self.error_of(InvalidOperation, is_primitive_in, GREAT, GREAT.scaled(Ratio(3, 2)))
        self.assertIs(is_primitive_in(GREAT, GREAT), True)


class Generators(Case):

    def norms(self, best):
        draw = random.Random(66)
        return list(ideals_of(best, 6)) + list(ideals_of(best, 4)) + [random_ideal(draw, best) for _ in range(6)]

    def test_generators(self):
        for algebra in DEFINITE:
            best = BESTS[str(algebra)]
            for ideal in self.norms(best):
                found = generator(ideal)
                # A lattice has a generator exactly if a member has its norm.
                told = [four for four in ideal.basis() if four.norm == ideal.lattice_norm()]
                if found is None:
                    self.assertEqual(told, [])
                    for four in told + list(ideal.basis()):
                        self.assertIs(is_generator(ideal, four), False)
                else:
                    self.assertIs(type(found), Four)
                    self.assertEqual(best.by(found), ideal)
                    for unit in units(best):
                        self.assertIs(is_generator(ideal, unit * found), True)
                    for wrong in (found.scaled(2), found.scaled(Ratio(1, 2)), found + found, found - found):
                        self.assertIs(is_generator(ideal, wrong), False)
                    for unit in units(ideal.right_order()):
                        self.assertIs(is_generator(ideal, found * unit), True)
            # With one class each ideal has a generator.
            if algebra.discriminant in (2, 3, 5, 7, 13):
                self.assertTrue(all(generator(ideal) is not None for ideal in self.norms(best)))

    def test_between(self):
        # [7.5]
        draw = random.Random(67)
        for algebra in DEFINITE:
            best = BESTS[str(algebra)]
            found = self.norms(best)
            for _ in range(30):
                one, other = draw.choice(found), draw.choice(found)
                four = between(one, other)
                self.assertIs(are_one_class(one, other), four is not None)
                self.assertIs(are_one_class(other, one), four is not None)
                told = generator(inverse(one) * other) is not None
                self.assertIs(four is not None, told)
                if four is not None:
                    self.assertEqual(one.by(four), other)
                    for unit in units(one.right_order()):
                        self.assertIs(is_between(one, other, unit * four), True)
                    self.assertIs(is_between(one, other, four.scaled(3)), False)
                    self.assertIs(is_between(other, one, four.inverse()), True)
                lead = random_four(draw, algebra, 30, 7)
                self.assertEqual(one.by(between(one, one.by(lead))), one.by(lead))
                self.assertIs(is_between(one, one.by(lead), lead), True)

    def test_great_ideals(self):
        draw = random.Random(68)
        step = next(ideal for ideal in neighbours(GREAT, 2) if generator(ideal) is None)
        for _ in range(3):
            four, more = random_four(draw, ELEVEN, SIXTY, SIXTY), random_four(draw, ELEVEN, 10 ** 40, 10 ** 20)
            self.assertIs(is_generator(GREAT.by(four), four), True)
            self.assertEqual(GREAT.by(generator(GREAT.by(four))), GREAT.by(four))
            found = between(step.by(more), step.by(four))
            self.assertEqual(step.by(more).by(found), step.by(four))
            self.assertIsNone(between(GREAT.by(more), step.by(four)))

    def test_every_value(self):
        ideal = HURWITZ.by(ONE + I + J)
        for value in VALUES + (ONE, I, (ONE + I + J) * I, (ONE + I + J,), ELEVEN.basis()[0], ideal, 3):
            self.assertIs(is_generator(ideal, value), False)
            self.assertIs(is_between(HURWITZ, ideal, value), False)
        self.assertIs(is_generator(ideal, HALF * (ONE + I + J)), True)
        self.assertIs(is_between(ideal, HURWITZ, (ONE + I + J).inverse()), True)

    def test_refused(self):
        for function, rest in ((between, ()), (is_between, (None,)), (are_one_class, ())):
            for value in NO_IDEALS:
                self.error_of(InvalidIdeal, function, value, None, *rest)
                self.error_of(InvalidIdeal, function, HURWITZ, value, *rest)
                self.error_of(InvalidIdeal, function, BESTS[str(TEN)], value, *rest)
            for value in (led(HURWITZ, ONE + I + J), GREAT, HURWITZ.ahead(ONE + I + J)):
                self.error_of(InvalidIdeal, function, HURWITZ, value, *rest)
            for algebra in OTHERS:
                best = BESTS[str(algebra)]
                self.error_of(InvalidOperation, function, best, best, *rest)
                self.error_of(InvalidOperation, function, best, neighbours(best, 3)[0], *rest)
        for algebra in OTHERS:
            best = BESTS[str(algebra)]
            self.error_of(InvalidOperation, generator, best.scaled(2))
            self.error_of(InvalidOperation, is_generator, best, algebra.basis()[0])
            self.error_of(InvalidOperation, is_generator, best, None)


if __name__ == "__main__":
    unittest.main()
