"""Algebras and fours: [0.8] to [0.13], [2.1]."""

import random
import unittest
from fractions import Fraction

from signfours.base.numbers import factors
from signfours.base.ratios import Ratio
from signfours.errors import InvalidAlgebra, InvalidFour, InvalidOperation, InvalidRatio, Refused
from signfours.four.fours import Algebra, Four
from signfours.place.signs import signed_places
from tests.support import (
    ALGEBRAS, Case, ELEVEN, HAMILTON, LONG, NO_ALGEBRAS, NO_FOURS, NO_INTEGERS, NO_NUMBERS, NO_RATIOS, SIXTY, SPLIT,
    TEN, TOO_LONG,
)


def rules(a, b):
    """The products of 1, i, j and k: for each pair a coefficient and an index, from [0.8]."""
    table = {(0, at): (1, at) for at in range(4)}
    table.update({(at, 0): (1, at) for at in range(4)})
    table.update({(1, 1): (a, 0), (2, 2): (b, 0), (3, 3): (-a * b, 0), (1, 2): (1, 3), (2, 1): (-1, 3)})
    table.update({(2, 3): (-b, 1), (3, 2): (b, 1), (3, 1): (-a, 2), (1, 3): (a, 2)})
    return table


def parts(four):
    return [Fraction(entry, four.bottom) for entry in four.entries]


def product(algebra, one, other):
    made = [Fraction(0)] * 4
    for (at, to), (size, found) in rules(algebra.a, algebra.b).items():
        made[found] += size * one[at] * other[to]
    return made


def drawn(draw, algebra, size=9):
    entries = tuple(draw.randint(-size, size) for _ in range(4))
    return Four(algebra, entries, draw.choice((-1, 1)) * draw.randint(1, size))


def fraction(ratio):
    return Fraction(ratio.top, ratio.bottom)


class Algebras(Case):

    def test_properties(self):
        for a in list(range(-11, 12)) + [10 ** 9, -999999937]:
            for b in list(range(-11, 12)) + [-(10 ** 9), 31607 ** 2]:
                if a == 0 or b == 0:
                    continue
                algebra = Algebra(a, b)
                places = signed_places(a, b)
                self.same([algebra.a, algebra.b], [a, b])
                self.same(algebra.places, places)
                discriminant = 1
                for place in places:
                    discriminant *= place or 1
                self.same(algebra.discriminant, discriminant)
                self.assertIs(algebra.is_tables, places == ())
                self.assertIs(algebra.is_definite, a < 0 and b < 0)
                self.assertEqual(str(algebra), f"({a}, {b})")

    def test_told_algebras(self):
        self.assertEqual([HAMILTON.places, HAMILTON.discriminant, HAMILTON.is_tables, HAMILTON.is_definite], [(0, 2), 2, False, True])
        self.assertEqual([TEN.places, TEN.discriminant, TEN.is_tables, TEN.is_definite], [(2, 5), 10, False, False])
        self.assertEqual([SPLIT.places, SPLIT.discriminant, SPLIT.is_tables, SPLIT.is_definite], [(), 1, True, False])
        self.assertEqual([Algebra(-1, -42).places, Algebra(-1, -42).discriminant], [(0, 2, 3, 7), 42])

    def test_refused(self):
        for value in NO_NUMBERS:
            self.no_number(value, Algebra, value, 1)
            self.no_number(value, Algebra, value, 0)
            self.no_number(value, Algebra, 1, value)
        self.no_number(True, Algebra, True, "x")

    def test_basis(self):
        for algebra in ALGEBRAS:
            basis = algebra.basis()
            self.assertIs(type(basis), tuple)
            self.assertEqual([four.entries for four in basis], [(1, 0, 0, 0), (0, 1, 0, 0), (0, 0, 1, 0), (0, 0, 0, 1)])
            self.assertEqual([four.bottom for four in basis], [1] * 4)
            for four in basis:
                self.assertIs(type(four), Four)
                self.assertEqual(four.algebra, algebra)

    def test_equality(self):
        self.assertIs(Algebra(-1, -11) == ELEVEN, True)
        self.assertIs(Algebra(-1, -11) != ELEVEN, False)
        for other in (HAMILTON, Algebra(-11, -1), Algebra(-1, 11), Algebra(-4, -11), Algebra(-11, -11)):
            self.assertIs(ELEVEN == other, False)
            self.assertIs(ELEVEN != other, True)
        for value in NO_ALGEBRAS + ((-1, -11), "(-1, -11)", [-1, -11], 11):
            self.assertIs(ELEVEN == value, False)
            self.assertIs(ELEVEN != value, True)

    def test_not_iterated_over(self):
        self.assertRaises(TypeError, iter, HAMILTON)


class FourObjects(Case):

    def test_lowest_terms(self):
        draw = random.Random(19)
        for size in (4, 30, SIXTY):
            for _ in range(200):
                entries = tuple(draw.randint(-size, size) for _ in range(4))
                bottom = draw.choice((-1, 1)) * draw.randint(1, size)
                four = Four(TEN, entries, bottom)
                told = [Fraction(entry, bottom) for entry in entries]
                self.assertEqual(parts(four), told)
                least = 1
                while size < 100 and any((least * part).denominator != 1 for part in told):
                    least += 1
                if size < 100:
                    self.assertEqual(four.bottom, least)
                self.assertGreater(four.bottom, 0)
                self.assertIs(type(four.entries), tuple)
        self.assertEqual([Four(TEN, (2, -4, 6, 0), -4).entries, Four(TEN, (2, -4, 6, 0), -4).bottom], [(-1, 2, -3, 0), 2])
        self.assertEqual([Four(TEN, (0, 0, 0, 0), -4).entries, Four(TEN, (0, 0, 0, 0), -4).bottom], [(0, 0, 0, 0), 1])
        self.assertEqual([Four(TEN, (6, 3, 3, 3)).entries, Four(TEN, (6, 3, 3, 3)).bottom], [(6, 3, 3, 3), 1])

    def test_properties(self):
        draw = random.Random(23)
        for algebra in ALGEBRAS:
            for size in (3, 50, SIXTY):
                for _ in range(20):
                    four = drawn(draw, algebra, size)
                    w, x, y, z = parts(four)
                    self.assertEqual(four.algebra, algebra)
                    self.assertIs(type(four.trace), Ratio)
                    self.assertIs(type(four.norm), Ratio)
                    self.assertEqual(fraction(four.trace), 2 * w)
                    norm = w * w - algebra.a * x * x - algebra.b * y * y + algebra.a * algebra.b * z * z
                    self.assertEqual(fraction(four.norm), norm)
                    self.assertIs(four.is_ratio, x == y == z == 0)
                    self.assertIs(bool(four), any((w, x, y, z)))

    def test_is_ratio_and_truth(self):
        for entries, is_ratio, truth in (
            ((0, 0, 0, 0), True, False), ((5, 0, 0, 0), True, True), ((0, 1, 0, 0), False, True),
            ((0, 0, -1, 0), False, True), ((0, 0, 0, 1), False, True), ((1, 0, 0, 1), False, True),
        ):
            for bottom in (1, -3):
                four = Four(SPLIT, entries, bottom)
                self.assertIs(four.is_ratio, is_ratio)
                self.assertIs(bool(four), truth)
        self.assertIs(bool(Four(SPLIT, (1, 1, 0, 0))), True)
        self.assertEqual(Four(SPLIT, (1, 1, 0, 0)).norm, 0)

    def test_refused(self):
        good = (1, 2, 3, 4)
        for value in NO_ALGEBRAS:
            self.error_of(InvalidAlgebra, Four, value, good)
            self.error_of(InvalidAlgebra, Four, value, None, 0)
        for value in NO_INTEGERS + TOO_LONG + (0, [1, 2, 3, 4], (1, 2, 3, 4, 5), (1, 2, 3), (), ((1, 2, 3, 4),)):
            self.error_of(InvalidFour, Four, HAMILTON, value)
            self.error_of(InvalidFour, Four, HAMILTON, value, 0)
        for value in NO_INTEGERS + TOO_LONG:
            for at in range(4):
                self.error_of(InvalidFour, Four, HAMILTON, good[:at] + (value,) + good[at + 1:])
                self.error_of(InvalidFour, Four, HAMILTON, good[:at] + (value,) + good[at + 1:], None)
            self.no_number(value, Four, HAMILTON, good, value)
        self.no_number(0, Four, HAMILTON, good, 0)
        self.no_number(0, Four, HAMILTON, (0, 0, 0, 0), 0)
        self.assertEqual(Four(HAMILTON, (SIXTY, -SIXTY, 0, 0), SIXTY).entries, (1, -1, 0, 0))

    def test_texts(self):
        told = {
            ((0, 0, 0, 0), 1): "0", ((0, 0, 0, 0), 7): "0", ((1, 0, 0, 0), 1): "1", ((-1, 0, 0, 0), 1): "-1",
            ((0, 1, 0, 0), 1): "i", ((0, -1, 0, 0), 1): "-i", ((0, 0, 1, 0), 1): "j", ((0, 0, -1, 0), 1): "-j",
            ((0, 0, 0, 1), 1): "k", ((0, 0, 0, -1), 1): "-k", ((0, -1, 0, 2), 1): "-i+2k", ((1, 1, 1, 1), 1): "1+i+j+k",
            ((-1, -1, -1, -1), 1): "-1-i-j-k", ((12, -10, 11, 1), 1): "12-10i+11j+k", ((1, 2, -1, 3), 2): "(1+2i-j+3k)/2",
            ((0, -1, 0, 0), 2): "(-i)/2", ((1, 0, 0, 0), 3): "(1)/3", ((-1, 0, 0, 0), 2): "(-1)/2", ((2, 0, 0, 4), 6): "(1+2k)/3",
            ((0, 0, 10, 0), 1): "10j", ((0, 21, 0, -1), 1): "21i-k", ((5, 0, -7, 0), 10): "(5-7j)/10",
        }
        for (entries, bottom), text in told.items():
            self.assertEqual(str(Four(ELEVEN, entries, bottom)), text)
        self.assertEqual(str(Four(ELEVEN, (SIXTY, 0, 0, -SIXTY))), f"{SIXTY}-{SIXTY}k")

    def test_equality(self):
        one = Four(HAMILTON, (1, 2, 3, 4), 2)
        self.assertIs(one == Four(Algebra(-1, -1), (-2, -4, -6, -8), -4), True)
        self.assertIs(one != Four(Algebra(-1, -1), (-2, -4, -6, -8), -4), False)
        others = (
            Four(ELEVEN, (1, 2, 3, 4), 2), Four(HAMILTON, (1, 2, 3, 4)), Four(HAMILTON, (1, 2, 3, 4), -2),
            Four(HAMILTON, (2, 2, 3, 4), 2), Four(HAMILTON, (1, 3, 3, 4), 2), Four(HAMILTON, (1, 2, 4, 4), 2),
            Four(HAMILTON, (1, 2, 3, 3), 2), one.mate(), -one,
        )
        for other in others:
            self.assertIs(one == other, False)
            self.assertIs(one != other, True)
        for four in (Four(HAMILTON, (1, 0, 0, 0)), Four(HAMILTON, (0, 0, 0, 0)), one):
            for value in NO_FOURS + (1, Ratio(1), (1, 0, 0, 0), "1"):
                self.assertIs(four == value, False)
                self.assertIs(four != value, True)
                self.assertIs(value == four, False)

    def test_not_iterated_over(self):
        self.assertRaises(TypeError, iter, Four(HAMILTON, (1, 2, 3, 4)))


class Operations(Case):

    def is_four(self, four, algebra, told):
        self.assertIs(type(four), Four)
        self.assertEqual(four.algebra, algebra)
        self.assertEqual(parts(four), list(told))
        if max(map(abs, four.entries + (four.bottom,))) <= SIXTY:
            self.assertEqual(four, Four(algebra, four.entries, four.bottom))
        w, x, y, z = told
        norm = w * w - algebra.a * x * x - algebra.b * y * y + algebra.a * algebra.b * z * z
        self.assertEqual([fraction(four.trace), fraction(four.norm)], [2 * w, norm])
        self.assertIs(four.is_ratio, x == y == z == 0)

    def pairs(self):
        draw = random.Random(29)
        for algebra in ALGEBRAS:
            for size in (1, 3, 40, 10 ** 28, SIXTY):
                for _ in range(12):
                    yield algebra, drawn(draw, algebra, size), drawn(draw, algebra, size)

    def test_sums_and_products(self):
        for algebra, one, other in self.pairs():
            pairs = list(zip(parts(one), parts(other)))
            self.is_four(one + other, algebra, [first + second for first, second in pairs])
            self.is_four(one - other, algebra, [first - second for first, second in pairs])
            self.is_four(one * other, algebra, product(algebra, parts(one), parts(other)))
            self.is_four(-one, algebra, [-part for part in parts(one)])
            w, x, y, z = parts(one)
            self.is_four(one.mate(), algebra, [w, -x, -y, -z])

    def test_rules_of_the_units(self):
        for algebra in ALGEBRAS:
            basis = algebra.basis()
            for (at, to), (size, found) in rules(algebra.a, algebra.b).items():
                self.assertEqual(basis[at] * basis[to], basis[found].scaled(size))

    def test_equal_algebras_are_enough(self):
        one, other = Four(Algebra(-1, -11), (1, 2, 3, 4)), Four(Algebra(-1, -11), (0, 1, 0, 0))
        self.assertEqual(str(one * other), "-2+i+4j-3k")
        self.assertEqual(str(one + other), "1+3i+3j+4k")

    def test_no_other_operands(self):
        one = Four(HAMILTON, (1, 2, 3, 4))
        for value in NO_FOURS + (Ratio(1), 2):
            for act in (lambda: one + value, lambda: one - value, lambda: one * value):
                self.assertRaises(TypeError, act)
        for left in (2, Ratio(2), True, None):
            for act in (lambda: left + one, lambda: left - one, lambda: left * one):
                self.assertRaises(TypeError, act)
        for other in (Four(ELEVEN, (1, 2, 3, 4)), Four(SPLIT, (0, 0, 0, 0)), Four(Algebra(-1, -4), (1, 0, 0, 0))):
            self.error_of(InvalidOperation, lambda: one + other)
            self.error_of(InvalidOperation, lambda: one - other)
            self.error_of(InvalidOperation, lambda: one * other)

    def test_identities(self):
        # [0.9] and [2.1].
        for algebra, one, other in self.pairs():
            unit = algebra.basis()[0]
            null = Four(algebra, (0, 0, 0, 0))
            self.assertEqual(one * one - one.scaled(one.trace) + unit.scaled(one.norm), null)
            self.assertEqual((one * other).mate(), other.mate() * one.mate())
            self.assertEqual(one * one.mate(), unit.scaled(one.norm))
            self.assertEqual(one + one.mate(), unit.scaled(one.trace))
            self.assertEqual((one * other).norm, one.norm * other.norm)
            self.assertEqual((one * other).trace, (other * one).trace)
            self.assertEqual((one * other) * one, one * (other * one))
            if not algebra.is_tables and one:
                self.assertNotEqual(one.norm, 0)

    def test_inverse(self):
        for algebra, one, _ in self.pairs():
            if one.norm:
                self.assertEqual(one * one.inverse(), algebra.basis()[0])
                self.assertEqual(one.inverse() * one, algebra.basis()[0])
                self.assertEqual(one.inverse().inverse(), one)
                norm = fraction(one.norm)
                w, x, y, z = parts(one)
                self.is_four(one.inverse(), algebra, [w / norm, -x / norm, -y / norm, -z / norm])

    def test_no_inverse(self):
        for four in (
            Four(HAMILTON, (0, 0, 0, 0)), Four(SPLIT, (1, 1, 0, 0)), Four(SPLIT, (1, 0, -1, 0), 2), Four(SPLIT, (0, 1, 0, 1)),
            Four(Algebra(2, 7), (3, 1, 1, 0)),
        ):
            self.assertEqual(four.norm, 0)
            self.same(self.error_of(Refused, four.inverse).reason, ("norm",))
            for many in (-1, -2, -1000):
                self.same(self.error_of(Refused, four.power, many).reason, ("norm",))
            self.assertEqual(four.power(0), four.algebra.basis()[0])
            self.assertEqual(four.power(1), four)
            self.assertEqual(four.power(2), four * four)

    def test_power(self):
        draw = random.Random(31)
        for algebra in ALGEBRAS:
            for size in (2, 20, SIXTY):
                four = drawn(draw, algebra, size)
                made = algebra.basis()[0]
                for many in range(12):
                    self.assertEqual(four.power(many), made)
                    if four.norm:
                        self.assertEqual(four.power(-many), made.inverse())
                    made = made * four
        unit = Four(HAMILTON, (1, 1, 0, 0))
        self.assertEqual(unit.power(1000), HAMILTON.basis()[0].scaled(2 ** 100).power(5))
        self.assertEqual(unit.power(-1000) * unit.power(1000), HAMILTON.basis()[0])
        self.assertEqual(unit.power(999) * unit, unit.power(1000))
        half = Four(ELEVEN, (1, 2, 0, -1), 3)
        self.assertEqual(half.power(600) * half.power(400), half.power(1000))
        self.assertEqual(half.power(-1000), half.power(1000).inverse())

    def test_refused_powers(self):
        for four in (Four(HAMILTON, (1, 2, 3, 4)), Four(SPLIT, (1, 1, 0, 0)), Four(SPLIT, (0, 0, 0, 0))):
            for value in NO_INTEGERS + TOO_LONG + (1001, -1001, SIXTY):
                self.no_number(value, four.power, value)

    def test_scaled(self):
        for algebra, one, _ in self.pairs():
            for ratio in (Ratio(2), Ratio(-3, 7), Ratio(0), Ratio(SIXTY, SIXTY - 1), Ratio(SIXTY) * Ratio(SIXTY)):
                self.is_four(one.scaled(ratio), algebra, [part * fraction(ratio) for part in parts(one)])
            for number in (0, 1, -1, 6, -SIXTY, SIXTY):
                self.is_four(one.scaled(number), algebra, [part * number for part in parts(one)])
        for value in NO_RATIOS:
            self.error_of(InvalidRatio, Four(HAMILTON, (1, 2, 3, 4)).scaled, value)
            self.error_of(InvalidRatio, Four(HAMILTON, (0, 0, 0, 0)).scaled, value)

    def test_long_results_are_let(self):
        one = Four(HAMILTON, (SIXTY, SIXTY, 1, 0))
        long = one * one
        self.assertEqual(long.entries, (-1, 2 * SIXTY * SIXTY, 2 * SIXTY, 0))
        self.assertEqual(long + long - long, long)
        self.assertEqual(long * long.inverse(), HAMILTON.basis()[0])
        self.assertEqual(str(long), f"-1+{2 * SIXTY * SIXTY}i+{2 * SIXTY}j")
        self.assertGreater(max(long.entries), LONG)
        self.assertEqual(long.power(2), long * long)

    def test_never_changes(self):
        one, other = Four(TEN, (1, 2, 3, 4), 5), Four(TEN, (2, 0, 1, 1), 3)
        for _ in range(2):
            one + other, one - other, one * other, -one, one.mate(), one.inverse(), one.power(3), one.scaled(7)
            bool(one), str(one), one == other
            self.assertEqual([one.entries, one.bottom, other.entries, other.bottom], [(1, 2, 3, 4), 5, (2, 0, 1, 1), 3])
            self.assertEqual([str(one.trace), str(one.norm)], ["2/5", "108/25"])


class Statements(Case):
    """[0.13], as far as stage 2 tells of it."""

    def test_even_number_of_places(self):
        for a in range(-15, 16):
            for b in range(-15, 16):
                if a and b:
                    self.assertEqual(len(Algebra(a, b).places) % 2, 0)

    def test_primes_of_the_discriminant(self):
        for algebra in (HAMILTON, ELEVEN, TEN, Algebra(3, -7), Algebra(-4, 6), Algebra(-1, -42), Algebra(-31607, 999983)):
            told = {prime: 1 for prime in algebra.places if prime}
            if algebra.discriminant <= 10 ** 9:
                self.assertEqual(factors(algebra.discriminant), told)


if __name__ == "__main__":
    unittest.main()
