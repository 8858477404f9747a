"""Whole fours, their factors and exchanges, and the points of a prime: [12.1] to [12.6]."""

import random
import unittest
from itertools import permutations, product
from math import gcd, prod

from signfours.base.numbers import factors, residue_sign
from signfours.base.ratios import Ratio
from signfours.errors import InvalidFour, InvalidOperation
from signfours.four.fours import Algebra, Four, made_four
from signfours.order.norms import fours_of, units
from signfours.order.orders import is_greatest, order_discriminant
from signfours.whole.hurwitz import (
    common, divided, exchange, factors_along, is_common, is_divided, is_exchange, is_factors, is_primitive, is_whole, whole_lattice,
)
from signfours.whole.parts import nearest_quotient
from signfours.whole.points import exchange_order, points_of
from tests.support import (
    Case, ELEVEN, HALF, HAMILTON, HURWITZ, I, J, K, LONG, NO_INTEGERS, NO_PRIMES, ONE, SIXTY, TOO_LONG, VALUES, primes_to,
)

UNITS = units(HURWITZ)
ZERO = ONE - ONE
ODD = ONE + I + J
NO_WHOLES = tuple(value for value in VALUES if not isinstance(value, Four)) + (
    Four(HAMILTON, (1, 0, 0, 0), 2), Four(HAMILTON, (1, 1, 1, 0), 2), Four(HAMILTON, (1, 1, 1, 2), 2), Four(HAMILTON, (1, 1, 1, 1), 3),
    Four(HAMILTON, (1, 1, 1, 1), 4), Four(HAMILTON, (1, 3, 5, 7), 6), Four(ELEVEN, (1, 0, 0, 0)), Four(Algebra(-1, -2), (2, 1, 0, 0)),
    Four(Algebra(-4, -1), (1, 0, 0, 0)), Four(Algebra(1, 1), (1, 1, 1, 1), 2), Four(Algebra(-1, 1), (1, 0, 0, 0)),
)
NO_SIDES = (None, 0, 1, "", "True", (), (True,), [], {}, Ratio(1), ONE, LONG)


def whole(draw, size):
    """A drawn whole four with integers to a size."""
    if size < 2 or draw.random() < 0.5:
        return Four(HAMILTON, tuple(draw.randint(-size, size) for _ in range(4)))
    return Four(HAMILTON, tuple(2 * draw.randint(-size // 2, size // 2 - 1) + 1 for _ in range(4)), 2)


def is_told_whole(four):
    """Whether twice the entries are integers that are all even or all odd."""
    if four.algebra != HAMILTON or four.bottom not in (1, 2):
        return False
    return len({2 * entry // four.bottom % 2 for entry in four.entries}) == 1


def fits(fours):
    return all(abs(entry) < LONG for four in fours for entry in four.entries)


def twice(four):
    return tuple(entry * 2 // four.bottom for entry in four.entries)


def sequences(number):
    """All sequences of the primes whose product is a number."""
    listed = [prime for prime, many in factors(number).items() for _ in range(many)]
    return sorted(set(permutations(listed)))


class Wholes(Case):

    def test_is_whole(self):
        draw = random.Random(1201)
        for _ in range(3000):
            four = made_four(HAMILTON, tuple(draw.randint(-4, 4) for _ in range(4)), draw.choice((1, 2, 2, 2, 3, 4, 6)))
            self.assertIs(is_whole(four), is_told_whole(four))
            self.assertIs(four in whole_lattice(), is_told_whole(four))
        for four in (ZERO, ONE, HALF, -HALF, Four(HAMILTON, (SIXTY, SIXTY, SIXTY, -SIXTY), 2), made_four(HAMILTON, (LONG, 1, LONG, 0), 1), HALF.power(5)):
            self.assertIs(is_whole(four), True)
        for given in NO_WHOLES:
            self.assertIs(is_whole(given), False)
            self.assertIs(is_primitive(given), False)

    def test_lattice(self):
        self.assertEqual(whole_lattice(), HURWITZ)
        self.assertTrue(is_greatest(whole_lattice()))
        self.assertEqual(order_discriminant(whole_lattice()), 2)
        self.assertEqual(len(UNITS), 24)

    def test_is_primitive(self):
        for parts in product(range(-4, 5), repeat=4):
            if len({part % 2 for part in parts}) == 1:
                four = made_four(HAMILTON, parts, 2)
                told = any(parts) and not any(is_told_whole(made_four(HAMILTON, parts, 2 * many)) for many in (2, 3, 4, 5, 6, 7, 8))
                self.assertIs(is_primitive(four), told)
        self.assertIs(is_primitive(ZERO), False)
        self.assertIs(is_primitive(HALF + HALF), False)
        self.assertIs(is_primitive(ONE.scaled(SIXTY) + I), True)
        self.assertIs(is_primitive(made_four(HAMILTON, (LONG, LONG, 0, 0), 1)), False)
        self.assertIs(is_primitive(Four(HAMILTON, (3 * 7, 3 * 5, 3, 3), 2)), False)


class Divisions(Case):

    def drawn(self):
        draw = random.Random(1202)
        for _ in range(250):
            sizes = draw.choice(((3, 3), (20, 3), (3, 20), (SIXTY, 10 ** 30), (SIXTY // 8, SIXTY), (SIXTY, SIXTY), (SIXTY, 5), (1, 1)))
            yield whole(draw, sizes[0]), whole(draw, sizes[1])
        # Quotients that are as far from integers as can be, and units.
        for one, other in product((HALF, ONE, I, ODD, ODD * HALF, ZERO, ONE.scaled(5)), (ONE, HALF, ONE + I, ONE.scaled(2), ODD)):
            yield one, other
            yield other * HALF, other

    def test_divisions(self):
        for one, other in self.drawn():
            if not other:
                self.error_of(InvalidOperation, divided, one, other)
                continue
            for ahead in (False, True):
                told = divided(one, other, ahead=ahead)
                quotient, rest = told
                self.assertEqual(one, (other * quotient if ahead else quotient * other) + rest)
                self.assertTrue(is_told_whole(quotient) and is_told_whole(rest))
                self.assertLess(rest.norm.top, other.norm.top)
                self.assertIs(is_divided(one, other, told, ahead=ahead), True)
                if one.norm.compared(other.norm) <= 0 or max(map(abs, one.entries)) < LONG // 9:
                    self.assertTrue(fits(told))
            self.assertEqual(divided(one, other), divided(one, other, ahead=False))

    def test_nearest_quotients(self):
        # Euclid's steps at least halve the norm.
        for one, other in self.drawn():
            if other:
                rest = one - nearest_quotient(one, other) * other
                self.assertLessEqual(2 * rest.norm.top, other.norm.top)

    def test_all_right_pairs(self):
        # Of all pairs with whole quotients near the quotient just those with a rest of less norm are right.
        small = [four for many in range(5) for four in fours_of(HURWITZ, many)]
        for one, other in ((ONE.scaled(5) + J, ONE + I), (ODD.scaled(3) + K, ODD + HALF), (HALF, ODD), (ODD, ONE)):
            start, start_ahead = divided(one, other)[0], divided(one, other, ahead=True)[0]
            right = 0
            for step in small:
                quotient = start + step
                rest = one - quotient * other
                told = rest.norm.compared(other.norm) < 0
                self.assertIs(is_divided(one, other, (quotient, rest)), told)
                right += told
                quotient = start_ahead + step
                rest = one - other * quotient
                self.assertIs(is_divided(one, other, (quotient, rest), ahead=True), rest.norm.compared(other.norm) < 0)
            self.assertGreater(right, 0)

    def test_wrong_pairs(self):
        one, other = ONE.scaled(5) + J, ONE + I + K
        quotient, rest = divided(one, other)
        wrong = (
            (quotient,), (quotient, rest, rest), [quotient, rest], (rest, quotient), (quotient, rest + ONE), (quotient + I, rest), (quotient, None),
            (None, rest), (5, 0), ((quotient, rest),), (quotient, rest.scaled(2)), (quotient.scaled(Ratio(1, 2)), rest), quotient,
        )
        for given in wrong + VALUES + NO_WHOLES:
            self.assertIs(is_divided(one, other, given), False)
        # Right equations with halves that are not whole, and with a rest of equal norm.
        part = Four(HAMILTON, (1, 0, 0, 0), 2)
        self.assertIs(is_divided(ONE, ONE.scaled(2), (part, ZERO)), False)
        self.assertIs(is_divided(ONE, ONE, (ZERO, ONE)), False)
        self.assertIs(is_divided(ONE, ONE, (ONE, ZERO)), True)
        self.assertIs(is_divided(I * J, J, (I, ZERO)), True)
        self.assertIs(is_divided(I * J, J, (I, ZERO), ahead=True), False)
        self.assertIs(is_divided(I * J, J, (-I, ZERO), ahead=True), True)
        far = (made_four(HAMILTON, (LONG, 0, 0, 0), 1), ZERO)
        self.assertIs(is_divided(ONE, ONE, far), False)

    def test_errors(self):
        for given in NO_WHOLES:
            for ahead in (False, True, None):
                self.error_of(InvalidFour, lambda: divided(given, ONE, ahead=ahead))
                self.error_of(InvalidFour, lambda: divided(ONE, given, ahead=ahead))
                self.error_of(InvalidFour, lambda: is_divided(given, ZERO, None, ahead=ahead))
                self.error_of(InvalidFour, lambda: is_divided(ONE, given, None, ahead=ahead))
                self.error_of(InvalidFour, lambda: common(given, ONE, ahead=ahead))
                self.error_of(InvalidFour, lambda: common(ZERO, given, ahead=ahead))
                self.error_of(InvalidFour, lambda: is_common(given, ONE, None, ahead=ahead))
                self.error_of(InvalidFour, lambda: is_common(ONE, given, None, ahead=ahead))
        self.error_of(InvalidOperation, divided, ONE, ZERO)
        self.error_of(InvalidOperation, is_divided, ONE, ZERO, (ONE, ONE))
        self.error_of(InvalidOperation, common, ZERO, ZERO)
        self.error_of(InvalidOperation, is_common, ZERO, ZERO, (ZERO, ZERO, ZERO))
        for given in NO_SIDES:
            self.error_of(InvalidOperation, lambda: divided(ONE, ONE, ahead=given))
            self.error_of(InvalidOperation, lambda: is_divided(ONE, ONE, None, ahead=given))
            self.error_of(InvalidOperation, lambda: common(ONE, ONE, ahead=given))
            self.error_of(InvalidOperation, lambda: is_common(ONE, ONE, None, ahead=given))
        for function in (divided, common):
            with self.assertRaises(TypeError):
                function(ONE, ONE, True)


class Commons(Case):

    def test_common_factors(self):
        draw = random.Random(1203)
        for _ in range(80):
            size = draw.choice((3, 20, 10 ** 9, SIXTY))
            one, other = whole(draw, size), whole(draw, size)
            if size < SIXTY and draw.random() < 0.6:
                factor = whole(draw, 4)
                one, other = draw.choice(((one * factor, other * factor), (factor * one, factor * other), (factor * one, other * factor)))
            one, other = draw.choice(((one, other), (one, other), (one, ZERO), (ZERO, other)))
            if not one and not other:
                continue
            for ahead in (False, True):
                told = common(one, other, ahead=ahead)
                self.assertIs(is_common(one, other, told, ahead=ahead), True)
                self.judged(one, other, told, ahead)
                self.assertTrue(fits(told))
                self.assertEqual(common(one, other, ahead=ahead), told)

    def test_sixty_digits(self):
        draw = random.Random(1210)

        def entry():
            return draw.choice((1, -1)) * draw.randint(LONG // 2, SIXTY)

        for _ in range(50):
            pair = []
            for _ in range(2):
                halves = draw.random() < 0.5
                pair.append(Four(HAMILTON, tuple((entry() - 1) // 2 * 2 + 1 if halves else entry() for _ in range(4)), 2 if halves else 1))
            told = common(*pair)
            self.judged(*pair, told, False)
            # Halves can take a digit more; then others are told.
            self.assertTrue(fits(told))

    def judged(self, one, other, told, ahead):
        factor, first, second = told
        total = one * first + other * second if ahead else first * one + second * other
        self.assertEqual(factor, total)
        for four in (one, other):
            part = factor.inverse() * four if ahead else four * factor.inverse()
            self.assertTrue(is_told_whole(part))
            self.assertEqual(factor * part if ahead else part * factor, four)

    def test_units(self):
        # All common factors come from one by units.
        one, other = ODD * (ONE.scaled(2) + I), (HALF + ONE + J) * (ONE.scaled(2) + I)
        for ahead in (False, True):
            factor, first, second = common(one, other, ahead=ahead)
            for unit in UNITS:
                moved = (factor * unit, first * unit, second * unit) if ahead else (unit * factor, unit * first, unit * second)
                self.assertIs(is_common(one, other, moved, ahead=ahead), True)
                wrong = (unit * factor, first, second) if unit != ONE else (factor, first + ONE, second)
                self.assertIs(is_common(one, other, wrong, ahead=ahead), False)
        found = common(ONE.scaled(3), ODD)
        self.assertEqual(found[0].norm, 3)
        self.assertEqual({twice(unit * found[0]) for unit in UNITS}, {twice(unit * ODD) for unit in UNITS})
        # The multiples of one four that make 0 can be added.
        idle = (ODD.mate(), ONE.scaled(-1))
        self.assertIs(is_common(ONE.scaled(3), ODD, (ODD, idle[1], idle[0] + ONE)), True)

    def test_wrong_triples(self):
        told = common(ONE.scaled(3), ODD)
        factor, first, second = told
        wrong = (
            told[:2], told + (ONE,), list(told), (factor, second, first), (factor.scaled(2), first.scaled(2), second.scaled(2)), (-factor, first, second),
            (ONE, first, second), (ZERO, ZERO, ZERO), (factor, None, second), (3, 0, 1), (factor, first, second.scaled(Ratio(1, 2))), ((factor, first), second),
            (ONE.scaled(3), ONE, ZERO), (ONE, ONE, ONE), (ODD + ONE.scaled(3), ONE, ONE),
        )
        for given in wrong + VALUES + NO_WHOLES:
            self.assertIs(is_common(ONE.scaled(3), ODD, given), False)
        # A sum that is no common factor, and whole factors that are no such sum.
        self.assertIs(is_common(ONE.scaled(4), ONE.scaled(6), (ONE.scaled(10), ONE, ONE)), False)
        self.assertIs(is_common(ONE.scaled(4), ONE.scaled(6), (ONE.scaled(2), -ONE, ONE)), True)
        self.assertIs(is_common(ONE.scaled(4), ONE.scaled(6), (ONE, -ONE, ONE)), False)
        part = Four(HAMILTON, (1, 0, 0, 0), 2)
        self.assertIs(is_common(ONE.scaled(4), ONE.scaled(6), (ONE.scaled(5), part, part)), False)
        # On one side alone.
        one, other = ODD * (ONE.scaled(2) + I), (ONE + J) * (ONE.scaled(2) + I)
        factor, first, second = common(one, other)
        self.assertIs(is_common(one, other, (factor, first, second), ahead=True), False)
        self.assertEqual(factor.norm, 5)

    def test_one_zero(self):
        for four in (ODD, ONE, HALF, ONE.scaled(6), Four(HAMILTON, (SIXTY, 1, 1, SIXTY))):
            for ahead in (False, True):
                for pair in ((four, ZERO), (ZERO, four)):
                    told = common(*pair, ahead=ahead)
                    self.assertEqual(told[0].norm, four.norm)
                    self.judged(*pair, told, ahead)
                self.assertIs(is_common(ZERO, four, (four, ODD, ONE), ahead=ahead), True)
                self.assertIs(is_common(ZERO, four, (four, ONE, ODD), ahead=ahead), False)


class Factors(Case):

    def judged(self, four, primes, told):
        self.assertIs(type(told), tuple)
        self.assertEqual([factor.norm.top for factor in told], list(primes))
        self.assertTrue(all(is_told_whole(factor) for factor in told))
        made = ONE
        for factor in told:
            made = made * factor
        self.assertEqual(made, four)
        self.assertIs(is_factors(four, primes, told), True)

    def test_along_each_sequence(self):
        draw = random.Random(1204)
        made = 0
        while made < 120:
            four = whole(draw, draw.choice((3, 8))) * ONE.scaled(draw.choice((1, 1, 2, 3, 5, 7)))
            if four.norm.top < 2 or max(factors(four.norm.top)) > 1000:
                continue
            made += 1
            listed = sequences(four.norm.top) if four.norm.top < 400 else [tuple(p for p, many in factors(four.norm.top).items() for _ in range(many))]
            for primes in listed[:20]:
                told = factors_along(four, primes)
                self.judged(four, primes, told)
                self.assertEqual(factors_along(four, primes), told)

    def test_moved_units(self):
        draw = random.Random(1205)
        four = ODD * (ONE.scaled(2) + I) * (ONE + K) * HALF
        for primes in sequences(30):
            x, y, z = factors_along(four, primes)
            for _ in range(20):
                u, v = draw.choice(UNITS), draw.choice(UNITS)
                self.assertIs(is_factors(four, primes, (x * u, u.mate() * y * v, v.mate() * z)), True)
                self.assertIs(is_factors(four, primes, (x * u, y, z)), u == ONE)
        # All factors of a primitive four along a sequence come so from any of them.
        for primes in ((2, 3), (3, 2)):
            even = (ONE + I) * ODD
            x, y = factors_along(even, primes)
            every = [(one, other) for one in fours_of(HURWITZ, primes[0]) for other in fours_of(HURWITZ, primes[1]) if one * other == even]
            self.assertEqual(len(every), 24)
            for unit in UNITS:
                self.assertIn((x * unit, unit.mate() * y), every)

    def test_integers(self):
        # An integer has many factors; 3 has four left factors of the norm 3 but for units.
        for one in fours_of(HURWITZ, 3):
            self.assertIs(is_factors(ONE.scaled(3), (3, 3), (one, one.mate())), True)
        self.assertEqual(len({min(twice(one * unit) for unit in UNITS) for one in fours_of(HURWITZ, 3)}), 4)
        for number in (2, 4, 6, 30, 97, 1000, 997):
            listed = [prime for prime, many in factors(number).items() for _ in range(2 * many)]
            self.judged(ONE.scaled(number), tuple(listed), factors_along(ONE.scaled(number), tuple(listed)))
            self.judged(HALF.scaled(number), tuple(listed[::-1]), factors_along(HALF.scaled(number), tuple(listed[::-1])))

    def test_great_fours(self):
        draw = random.Random(1206)
        fours = [draw.choice(fours_of(HURWITZ, prime)) for prime in (2, 3, 5, 7, 13) for _ in range(30)]
        draw.shuffle(fours)
        four = ONE
        for one in fours:
            four = four * one
        primes = [one.norm.top for one in fours]
        draw.shuffle(primes)
        self.judged(four, tuple(primes), factors_along(four, tuple(primes)))
        sixty = Four(HAMILTON, (2 ** 198, 0, 0, 2 ** 198))
        self.judged(sixty, (2,) * 397, factors_along(sixty, (2,) * 397))
        self.judged(ODD.power(300), (3,) * 300, factors_along(ODD.power(300), (3,) * 300))

    def test_wrong_factors(self):
        even = (ONE + I) * ODD
        x, y = factors_along(even, (2, 3))
        wrong = (
            (y, x), (x,), (x, y, ONE), [x, y], (x, -y), (x, None), (even, ONE), ((x, y),), (x * HALF, y), (x.scaled(2), y.scaled(Ratio(1, 2))), x,
            (x * Four(HAMILTON, (3, 4, 0, 0), 5), Four(HAMILTON, (3, -4, 0, 0), 5) * y), (),
        )
        for given in wrong + VALUES + NO_WHOLES:
            self.assertIs(is_factors(even, (2, 3), given), False)
        self.assertIs(is_factors(even, (3, 2), (x, y)), False)
        self.assertIs(is_factors(ODD, (3,), (ODD,)), True)
        self.assertEqual(factors_along(ODD, (3,)), (ODD,))
        self.assertEqual(factors_along(ONE + I, (2,)), (ONE + I,))
        self.assertIs(is_factors(ONE + I, (2,), (ONE + I,)), True)

    def test_errors(self):
        for given in NO_WHOLES + (ZERO, ONE, HALF, -I):
            self.error_of(InvalidFour, factors_along, given, None)
            self.error_of(InvalidFour, is_factors, given, None, None)
        even = (ONE + I) * ODD
        wrong = (
            (), (6,), (2, 3, 1), (2,), (3,), (2, 2, 3), [2, 3], (2, 3, True), (-2, -3), (2, 3, 2), (2, "3"), (2, Ratio(3)), 6, None, (2, (3,)), {2: 1, 3: 1},
            (10 ** 9 + 7,), (LONG,), (True, 2, 3), (2, None), (0, 2, 3), (1, 2, 3), (5, 7),
        )
        for given in wrong + NO_INTEGERS + TOO_LONG:
            self.error_of(InvalidOperation, factors_along, even, given)
            self.error_of(InvalidOperation, is_factors, even, given, None)
        great = Four(HAMILTON, (32, 1, 0, 0))
        self.assertEqual(great.norm, 1025)
        big = Four(HAMILTON, (1008, 5, 0, 0)) * HALF
        self.assertEqual(factors(big.norm.top), {1016089: 1})
        for function in (factors_along, lambda four, primes: is_factors(four, primes, None)):
            self.too_many(1000, function, big, (1016089,))
            self.error_of(InvalidOperation, function, big, (1016089, 1))
            self.too_many(1000, function, ONE.scaled(1009), (1009, 1009))
            self.error_of(InvalidOperation, function, ONE.scaled(1009), (1009,))
            self.error_of(InvalidOperation, function, Four(HAMILTON, (31623 * 2, 4, 1, 0)), (Four(HAMILTON, (31623 * 2, 4, 1, 0)).norm.top,))
        self.judged(ONE.scaled(997), (997, 997), factors_along(ONE.scaled(997), (997, 997)))


class Exchanges(Case):

    def test_exchanges(self):
        draw = random.Random(1207)
        for _ in range(120):
            p, q = draw.sample([2, 3, 5, 7, 11, 13, 29], 2)
            one, other = draw.choice(fours_of(HURWITZ, p)), draw.choice(fours_of(HURWITZ, q))
            told = exchange(one, other)
            self.assertEqual((told[0].norm, told[1].norm), (other.norm, one.norm))
            self.assertEqual(told[0] * told[1], one * other)
            self.assertTrue(is_told_whole(told[0]) and is_told_whole(told[1]))
            self.assertIs(is_exchange(one, other, told), True)
            unit = draw.choice(UNITS)
            self.assertIs(is_exchange(one, other, (told[0] * unit, unit.mate() * told[1])), True)
            self.assertIs(is_exchange(one, other, (unit * told[0], told[1])), unit == ONE)
            self.assertEqual(exchange(one, other), told)
        # All pairs come from one of them.
        one, other = ODD, ONE.scaled(2) + I
        every = [(r, s) for r in fours_of(HURWITZ, 5) for s in fours_of(HURWITZ, 3) if r * s == one * other]
        self.assertEqual(len(every), 24)
        self.assertIn(exchange(one, other), every)
        great = Four(HAMILTON, (30, 9, 4, 0)), Four(HAMILTON, (31, 4, 2, 2))
        self.assertEqual((great[0].norm, great[1].norm), (997, 985))
        great = Four(HAMILTON, (30, 9, 4, 0)), Four(HAMILTON, (31, 3, 3, 2))
        self.assertEqual(great[1].norm, 983)
        self.assertIs(is_exchange(*great, exchange(*great)), True)

    def test_wrong_pairs(self):
        one, other = ODD, ONE.scaled(2) + I
        r, s = exchange(one, other)
        wrong = (
            (s, r), (r,), (r, s, ONE), [r, s], (r, -s), (one, other), (other, one), (r, None), (5, 3), r, (r * s, ONE), (ONE, r * s),
            (r * Four(HAMILTON, (3, 4, 0, 0), 5), Four(HAMILTON, (3, -4, 0, 0), 5) * s),
        )
        for given in wrong + VALUES + NO_WHOLES:
            self.assertIs(is_exchange(one, other, given), False)

    def test_errors(self):
        no_primes = (ZERO, ONE, HALF, ONE.scaled(2), (ONE + I) * ODD, ONE.scaled(3), Four(HAMILTON, (SIXTY, 0, 0, 0)), Four(HAMILTON, (31623, 31623, 7, 0)))
        for given in NO_WHOLES + no_primes:
            self.error_of(InvalidFour, exchange, given, ODD)
            self.error_of(InvalidFour, exchange, ODD, given)
            self.error_of(InvalidFour, exchange, given, None)
            self.error_of(InvalidFour, is_exchange, given, ODD, None)
            self.error_of(InvalidFour, is_exchange, ODD, given, None)
        for one, other in ((ODD, ODD), (ODD, ONE + J + K), (ONE + I, ONE + K)):
            self.error_of(InvalidOperation, exchange, one, other)
            self.error_of(InvalidOperation, is_exchange, one, other, None)
        big = Four(HAMILTON, (28, 15, 0, 0))
        self.assertEqual(big.norm, 1009)
        for one, other in ((big, ODD), (ODD, big)):
            self.too_many(1000, exchange, one, other)
            self.too_many(1000, is_exchange, one, other, None)
        self.error_of(InvalidOperation, exchange, big, big * HALF)


class Points(Case):

    def test_points(self):
        for prime in [prime for prime in primes_to(100) if prime > 2]:
            points = points_of(prime)
            self.assertIs(type(points), tuple)
            self.assertEqual(len(points), prime + 1)
            self.assertTrue(all(four.norm == prime and is_told_whole(four) for four in points))
            keys = [twice(four) for four in points]
            self.assertEqual(keys, sorted(keys))
            if prime < 14:
                every = {}
                for four in fours_of(HURWITZ, prime):
                    every.setdefault(min(twice(unit * four) for unit in UNITS), []).append(four)
                self.assertEqual(sorted(every), keys)
                self.assertEqual({len(fours) for fours in every.values()}, {24})
            else:
                for four in points[::9]:
                    self.assertEqual(twice(four), min(twice(unit * four) for unit in UNITS))
        self.assertEqual([str(four) for four in points_of(3)], ["(-3-i-j-k)/2", "(-3-i-j+k)/2", "(-3-i+j-k)/2", "(-3-i+j+k)/2"])

    def by_hand(self, four, prime):
        """The order by the definition: S is found among all fours of the norm of the prime."""
        points = points_of(prime)
        keys = [twice(point) for point in points]
        found = []
        for point in points:
            behind = [other for other in fours_of(HURWITZ, prime) if is_told_whole((point * four) * other.inverse())]
            least = {min(twice(unit * other) for unit in UNITS) for other in behind}
            self.assertEqual(len(least), 1)
            found.append(keys.index(least.pop()))
        return tuple(found)

    def test_orders_by_hand(self):
        draw = random.Random(1208)
        for prime in (3, 5, 7):
            for _ in range(5 if prime < 7 else 2):
                four = whole(draw, 6)
                while four.norm.top % prime == 0:
                    four = whole(draw, 6)
                self.same(exchange_order(four, prime), self.by_hand(four, prime))

    def test_rules(self):
        draw = random.Random(1209)
        for prime in (3, 5, 7, 11, 13, 19, 31):
            for _ in range(8):
                size = draw.choice((4, 30, SIXTY))
                four, other = whole(draw, size), whole(draw, 9)
                if four.norm.top % prime == 0 or other.norm.top % prime == 0:
                    continue
                told = exchange_order(four, prime)
                self.assertEqual(sorted(told), list(range(prime + 1)))
                even = self.even(told)
                self.assertIs(even, residue_sign(four.norm.top % prime, prime) == 1)
                trace = four.trace.top
                fixed = [at for at in range(prime + 1) if told[at] == at]
                if not all(is_told_whole((four - ONE.scaled(many)).scaled(Ratio(1, prime))) is False for many in range(prime)):
                    self.assertEqual(len(fixed), prime + 1)
                else:
                    self.assertEqual(len(fixed), 1 + residue_sign((trace * trace - 4 * four.norm.top) % prime, prime))
                # The order of a product is one behind the other.
                there = exchange_order(other, prime)
                self.assertEqual(exchange_order(four * other, prime), tuple(there[at] for at in told))
                kept = ONE.scaled(draw.randint(1, prime - 1)) + whole(draw, 9).scaled(prime)
                self.assertEqual(exchange_order(kept, prime), tuple(range(prime + 1)))

    def even(self, order):
        seen, rounds = set(), 0
        for start in range(len(order)):
            many, at = 0, start
            while at not in seen:
                seen.add(at)
                many, at = many + 1, order[at]
            rounds += 1 if many and many % 2 == 0 else 0
        return rounds % 2 == 0

    def test_great_primes(self):
        for prime in (89, 97):
            told = exchange_order(Four(HAMILTON, (SIXTY, 2, 3, -SIXTY + 5)), prime)
            self.assertEqual(sorted(told), list(range(prime + 1)))

    def test_errors(self):
        for given in NO_PRIMES + (2,):
            self.no_number(given, points_of, given)
            self.no_number(given, exchange_order, ODD, given)
        for given in NO_WHOLES:
            self.error_of(InvalidFour, exchange_order, given, 2)
        for prime in (101, 103, 999999937):
            self.too_many(100, points_of, prime)
            self.too_many(100, exchange_order, ODD, prime)
            self.too_many(100, exchange_order, ONE.scaled(prime), prime)
            self.too_many(100, exchange_order, ZERO, prime)
        for prime in (3, 97):
            for four in (ZERO, ONE.scaled(prime), points_of(prime)[0], ODD.scaled(prime), HALF.scaled(prime)):
                self.error_of(InvalidOperation, exchange_order, four, prime)
        self.assertEqual(gcd(prod((3, 5)), 15), 15)


if __name__ == "__main__":
    unittest.main()
