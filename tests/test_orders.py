"""Orders and greatest orders: [5.6] to [5.9]."""

import random
import unittest
from math import isqrt

from signfours.base.ratios import Ratio
from signfours.errors import InvalidAlgebra, InvalidLattice, InvalidOrder, TooMany
from signfours.four.fours import Algebra, Four
from signfours.order import orders
from signfours.order.lattices import Lattice
from signfours.order.orders import (
    greater, greatest_over, is_greatest, is_order, is_outside, order_discriminant, outside, plain_order,
)
from tests.support import (
    Case, ELEVEN, GREAT, HAMILTON, HURWITZ, I, J, K, NO_ALGEBRAS, NO_LATTICES, ONE, PLAIN, SIXTY, SPLIT, TEN, VALUES,
    led, random_four, random_lattice,
)
from tests.test_lattices import determinant

ALGEBRAS = (HAMILTON, ELEVEN, SPLIT, TEN, Algebra(3, -7), Algebra(-4, 6), Algebra(2, 2), Algebra(-3, -15))


def told_discriminant(order):
    """The discriminant by the traces of the products of a basis."""
    basis = order.basis()
    table = [[(one * other).trace for other in basis] for one in basis]
    assert all(entry.bottom == 1 for row in table for entry in row)
    square = -determinant([[entry.top for entry in row] for row in table])
    root = isqrt(square)
    assert root * root == square
    return root


def is_told_order(lattice):
    """Whether the lattice is an order, by the words of the document."""
    one = lattice.algebra.basis()[0]
    return one in lattice and all(left * right in lattice for left in lattice.basis() for right in lattice.basis())


def suborder(order, many):
    """The order of the sums of integers and of multiples of the members."""
    return Lattice(order.algebra, order.scaled(many).basis() + order.algebra.basis()[:1])


def lattices():
    draw = random.Random(41)
    for algebra in ALGEBRAS:
        best = greatest_over(plain_order(algebra))
        yield plain_order(algebra)
        yield best
        for _ in range(4):
            four = random_four(draw, algebra, 9, 3)
            yield led(best, four)
            yield best & led(best, four)
            yield suborder(best, draw.randint(2, 6))
            yield best.by(four)
            yield best.scaled(Ratio(draw.randint(1, 3), draw.randint(1, 3)))
            yield best + led(best, four)
            yield random_lattice(draw, algebra, 2, 2)
            # Lattices near orders: one basis member scaled.
            fours = list(best.basis())
            at = draw.randrange(4)
            fours[at] = fours[at].scaled(Ratio(draw.randint(2, 3), draw.choice((1, 2))))
            yield Lattice(algebra, tuple(fours))


class Orders(Case):

    def test_judged(self):
        seen = []
        for lattice in lattices():
            told = is_told_order(lattice)
            seen.append(told)
            self.assertIs(is_order(lattice), told)
            shown = outside(lattice)
            self.assertIs(is_outside(lattice, shown), True)
            self.assertIs(is_outside(lattice, None), told)
            if told:
                self.assertIsNone(shown)
                # [5.6]
                for four in lattice.basis():
                    self.assertEqual((four.trace.bottom, four.norm.bottom), (1, 1))
                    self.assertIn(four.mate(), lattice)
                self.assertEqual(lattice.lattice_norm(), 1)
            elif shown[0] == "one":
                self.assertEqual(shown, ("one",))
                self.assertNotIn(lattice.algebra.basis()[0], lattice)
            else:
                word, x, y = shown
                self.assertEqual(word, "product")
                self.assertTrue(x in lattice and y in lattice and x * y not in lattice)
        self.assertGreater(seen.count(True), 60)
        self.assertGreater(seen.count(False), 60)

    def test_what_shows(self):
        odd = Lattice(ELEVEN, ELEVEN.basis()[:3] + (ELEVEN.basis()[3].scaled(2),))
        one, i, j, k = ELEVEN.basis()
        both = Lattice(ELEVEN, (one.scaled(2), i, j, k.scaled(2)))
        self.assertIs(is_outside(odd, ("product", i, j)), True)
        self.assertIs(is_outside(odd, ("product", j, i)), True)
        self.assertIs(is_outside(odd, ("product", i, i)), False)
        self.assertIs(is_outside(odd, ("product", i, k)), False)
        self.assertIs(is_outside(odd, ("one",)), False)
        self.assertIs(is_outside(both, ("one",)), True)
        self.assertIs(is_outside(both, ("product", i, j)), True)
        self.assertIs(is_outside(both, ("product", i, i)), True)
        self.assertIs(is_outside(both, None), False)
        for value in VALUES + (
            ("product",), ("product", i), ("product", i, j, i), ["one"], ["product", i, j], ("product", i, None), ("product", 1, j),
            ("product", I, J), ("one", i), ("one", None), (None,), ("One",), ("product", None, None), (("one",),), "one", (i, j),
            (True, i, j), ("product", True, True), {"one": 1}, ("outside", i, j), ("product", (i,), j), ("product", odd, odd),
        ):
            self.assertIs(is_outside(odd, value), False)
            self.assertIs(is_outside(GREAT, value), value is None)

    def test_every_value(self):
        for value in VALUES:
            self.assertIs(is_order(value), isinstance(value, Lattice))

    def test_plain_orders(self):
        for algebra in ALGEBRAS + (Algebra(10 ** 9, -(10 ** 9)),):
            order = plain_order(algebra)
            self.assertEqual(order, Lattice(algebra, algebra.basis()))
            self.assertEqual(order_discriminant(order), 4 * abs(algebra.a * algebra.b))
        for value in NO_ALGEBRAS:
            self.error_of(InvalidAlgebra, plain_order, value)

    def test_discriminants(self):
        # [5.6], [5.7]
        for lattice in lattices():
            if is_told_order(lattice):
                found = order_discriminant(lattice)
                self.assertIs(type(found), int)
                self.assertEqual(found, told_discriminant(lattice))
                self.assertEqual(found % lattice.algebra.discriminant, 0)
                self.assertIs(is_greatest(lattice), found == lattice.algebra.discriminant)
        self.assertEqual(order_discriminant(PLAIN), order_discriminant(HURWITZ) * PLAIN.index_in(HURWITZ).top)

    def test_led_orders(self):
        # [5.8]
        draw = random.Random(42)
        for algebra in ALGEBRAS:
            best = greatest_over(plain_order(algebra))
            for _ in range(4):
                order = led(best, random_four(draw, algebra, 20))
                self.assertIs(is_greatest(order), True)
                meet = order & best
                self.assertIs(is_order(meet), True)
                self.assertEqual(meet.index_in(best), meet.index_in(order))
                self.assertEqual(order_discriminant(meet), algebra.discriminant * meet.index_in(best).top)
                lattice = random_lattice(draw, algebra, 4, 2)
                self.assertIs(is_greatest(lattice.left_order()), is_greatest(lattice.right_order()))
                self.assertIs(is_greatest(best.by(random_four(draw, algebra, 9)).right_order()), True)

    def test_refused(self):
        self.assertEqual(orders.MAX_DISCRIMINANT, 10 ** 6)
        no_orders = NO_LATTICES + (PLAIN.scaled(2), HURWITZ.scaled(Ratio(1, 2)), Lattice(HAMILTON, (ONE, I, J, K.scaled(2))))
        for function in (order_discriminant, is_greatest, greater, greatest_over):
            for value in no_orders:
                self.error_of(InvalidOrder, function, value)
        for value in NO_LATTICES:
            self.error_of(InvalidLattice, outside, value)
            self.error_of(InvalidLattice, is_outside, value, None)
            self.error_of(InvalidLattice, is_outside, value, ("one",))


class GreatestOrders(Case):

    def judge(self, order):
        algebra = order.algebra
        found, best = greater(order), greatest_over(order)
        self.assertIs(is_order(best) and best.holds(order), True)
        self.assertEqual(order_discriminant(best), algebra.discriminant)
        self.assertIs(is_greatest(best), True)
        if order_discriminant(order) == algebra.discriminant:
            self.assertIsNone(found)
            self.assertEqual(best, order)
            self.assertIs(is_greatest(order), True)
        else:
            self.assertIs(is_greatest(order), False)
            self.assertIs(is_order(found) and found.holds(order), True)
            self.assertNotEqual(found, order)
            self.assertEqual(order_discriminant(order), order_discriminant(found) * order.index_in(found).top)

    def test_plain_orders(self):
        for a in range(-12, 13):
            for b in range(-12, 13):
                if a and b:
                    self.judge(plain_order(Algebra(a, b)))

    def test_great_discriminants(self):
        draw = random.Random(43)
        for a, b in ((500, 500), (-500, -500), (-1, 249989), (1, -249989), (-3, -83333), (499, -501), (210, -1155), (-512, 486)):
            self.judge(plain_order(Algebra(a, b)))
        for _ in range(150):
            a = draw.choice((-1, 1)) * draw.randint(1, 900)
            self.judge(plain_order(Algebra(a, draw.choice((-1, 1)) * draw.randint(1, 250000 // abs(a)))))

    def test_suborders(self):
        draw = random.Random(44)
        for algebra in ALGEBRAS + (Algebra(2, 7), Algebra(-1, -3), Algebra(-7, -13)):
            best = greatest_over(plain_order(algebra))
            for _ in range(6):
                four = random_four(draw, algebra, 12)
                for order in (best & led(best, four), suborder(best, draw.randint(2, 9)), suborder(best & led(best, four), 2)):
                    if order_discriminant(order) <= 10 ** 6:
                        self.judge(order)
                        self.judge(led(order, random_four(draw, algebra, SIXTY)))

    def test_great_primes(self):
        # Orders of discriminants p, p p and 2 p with great primes p, in the algebra of all tables and in others.
        one, i, j, k = SPLIT.basis()
        half = Ratio(1, 2)
        corner = ((one + i).scaled(half), (one - i).scaled(half), (j + k).scaled(half))
        for prime in (999983, 499979, 9973, 997, 2, 3):
            order = Lattice(SPLIT, corner + ((j - k).scaled(half).scaled(prime),))
            self.assertEqual(order_discriminant(order), prime)
            self.judge(order)
        for prime in (997, 991, 31, 2):
            self.judge(Lattice(SPLIT, (one, corner[0].scaled(prime), corner[2], (j - k).scaled(half).scaled(prime))))
        for prime in (99989, 83):
            four = next(
                Four(HAMILTON, (w, x, y, 0)) for w in range(1, 320) for x in range(w) for y in [isqrt(max(0, prime - w * w - x * x))]
                if w * w + x * x + y * y == prime)
            order = HURWITZ & led(HURWITZ, four)
            self.assertEqual(order_discriminant(order), 2 * prime)
            self.judge(order)

    def test_bound(self):
        for a, b in ((1, 250000), (-500, -500), (-2, 125000)):
            self.assertEqual(order_discriminant(plain_order(Algebra(a, b))), 10 ** 6)
            self.judge(plain_order(Algebra(a, b)))
        for order in (
            plain_order(Algebra(1, 250001)), plain_order(Algebra(10 ** 9, 10 ** 9)), plain_order(Algebra(-3, -83399)),
            suborder(HURWITZ, 100),
        ):
            self.assertGreater(order_discriminant(order), 10 ** 6)
            for function in (greater, greatest_over):
                self.assertEqual(self.error_of(TooMany, function, order).most, 10 ** 6)
        # The bound is asked for greatest orders, too.
        algebra = Algebra(-1, -1000003)
        half = Lattice(algebra, algebra.basis()[:2] + (Four(algebra, (1, 0, 1, 0), 2), Four(algebra, (0, 1, 0, 1), 2)))
        self.assertEqual(order_discriminant(half), algebra.discriminant)
        self.assertIs(is_greatest(half), True)
        for function in (greater, greatest_over):
            self.assertEqual(self.error_of(TooMany, function, half).most, 10 ** 6)

    def test_rows_that_are_not_true(self):
        # [5.9]: a square-free discriminant; one greatest order only; left and right orders; norms of products.
        four = ONE + I + J
        order = HURWITZ & led(HURWITZ, four)
        self.assertEqual(order_discriminant(order), 6)
        self.assertIs(is_greatest(order), False)
        self.assertIs(led(HURWITZ, four).holds(order) and HURWITZ.holds(order), True)
        ideal = GREAT.by(ELEVEN.basis()[0] + ELEVEN.basis()[2])
        self.assertNotEqual(ideal.left_order(), ideal.right_order())
        left = HURWITZ.by(four)
        self.assertEqual((left.lattice_norm() * HURWITZ.lattice_norm(), (left * HURWITZ).lattice_norm()), (Ratio(3), Ratio(1)))


if __name__ == "__main__":
    unittest.main()
