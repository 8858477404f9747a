"""Lattices: [5.1] to [5.5]."""

import random
import unittest
from itertools import combinations
from math import gcd, lcm

from signfours.base.ratios import Ratio, made_ratio
from signfours.errors import InvalidAlgebra, InvalidFour, InvalidLattice, InvalidRatio
from signfours.four.fours import Algebra, Four, made_four
from signfours.order.lattices import Lattice
from signfours.order.orders import is_order, plain_order
from tests.support import (
    Case, ELEVEN, GREAT, HALF, HAMILTON, HURWITZ, I, J, K, NO_ALGEBRAS, NO_FOURS, NO_LATTICES, NO_RATIOS, ONE, PLAIN,
    SIXTY, SPLIT, TEN, VALUES, random_four, random_lattice,
)

ALGEBRAS = (HAMILTON, ELEVEN, SPLIT, TEN, Algebra(3, -7), Algebra(-4, 6), Algebra(999999937, -10 ** 9))


def determinant(rows):
    if len(rows) == 1:
        return rows[0][0]
    return sum(
        (-1) ** at * row[0] * determinant([other[1:] for to, other in enumerate(rows) if to != at])
        for at, row in enumerate(rows)
    )


def multiples(lattice, four):
    """The multiples of the basis that make the four, as pairs of integers; by Cramer's rule."""
    rows = [list(row) for row in lattice.rows]
    whole = determinant(rows)
    target = list(four.entries)
    return [
        (determinant(rows[:at] + [target] + rows[at + 1:]) * lattice.bottom, whole * four.bottom) for at in range(4)
    ]


def is_member(lattice, four):
    return all(top % bottom == 0 for top, bottom in multiples(lattice, four))


def random_member(draw, lattice, size=9):
    made = None
    for four in lattice.basis():
        part = four.scaled(draw.randint(-size, size))
        made = part if made is None else made + part
    return made


class Rows(Case):

    def judge(self, algebra, fours):
        lattice = Lattice(algebra, fours)
        rows, bottom = lattice.rows, lattice.bottom
        self.assertEqual(lattice.algebra, algebra)
        self.assertIs(type(rows), tuple)
        self.assertEqual([type(row) for row in rows], [tuple] * 4)
        self.assertEqual({type(entry) for row in rows for entry in row}, {int})
        self.assertEqual([len(row) for row in rows], [4] * 4)
        for at, row in enumerate(rows):
            self.assertEqual(row[:at], (0,) * at)
            self.assertGreater(row[at], 0)
            for ahead in range(at):
                self.assertTrue(0 <= rows[ahead][at] < row[at], rows)
        # The bottom is the least common multiple; what the fours span is told by its least volume.
        self.assertEqual(bottom, lcm(*[four.bottom for four in fours]))
        self.assertEqual(gcd(bottom, *[entry for row in rows for entry in row]), 1)
        for four in fours:
            self.assertTrue(is_member(lattice, four))
            self.assertIs(four in lattice, True)
        vectors = [[entry * (bottom // four.bottom) for entry in four.entries] for four in fours]
        volume = gcd(*[determinant([vectors[at] for at in some]) for some in combinations(range(len(vectors)), 4)])
        self.assertEqual(rows[0][0] * rows[1][1] * rows[2][2] * rows[3][3], volume)
        self.assertEqual(lattice.basis(), tuple(made_four(algebra, row, bottom) for row in rows))
        self.assertEqual(str(lattice), "/".join(" ".join(map(str, row)) for row in rows) + f" over {bottom}")
        return lattice

    def test_drawn_fours(self):
        draw = random.Random(31)
        for algebra in ALGEBRAS:
            for size, bottom in ((3, 1), (9, 6), (1000, 1000), (SIXTY, 1), (10 ** 12, 10 ** 12)):
                for many in (4, 5, 7):
                    fours = tuple(
                        Four(algebra, tuple(draw.randint(-size, size) for _ in range(4)), draw.randint(1, bottom))
                        for _ in range(many))
                    try:
                        self.judge(algebra, fours)
                    except InvalidLattice:
                        self.assertLess(size, 10)

    def test_told_by_the_lattice(self):
        # The same members from other fours: sums, opposites, fours that are members already.
        draw = random.Random(32)
        for algebra in ALGEBRAS:
            for size, bottom in ((5, 3), (SIXTY, 7)):
                lattice = random_lattice(draw, algebra, size, bottom)
                for _ in range(6):
                    fours = list(lattice.basis())
                    for _ in range(12):
                        at, to = draw.sample(range(4), 2)
                        fours[at] = fours[at] + fours[to].scaled(draw.randint(-5, 5))
                    draw.shuffle(fours)
                    fours[0] = -fours[0]
                    more = [random_member(draw, lattice) for _ in range(draw.choice((0, 3, 36)))]
                    other = Lattice(algebra, tuple(more + fours))
                    self.assertEqual(other, lattice)
                    self.assertEqual((other.rows, other.bottom), (lattice.rows, lattice.bottom))
                self.assertEqual(Lattice(algebra, lattice.basis()), lattice)

    def test_great_entries(self):
        draw = random.Random(33)
        for many in (4, 8, 40):
            fours = tuple(
                Four(ELEVEN, tuple(draw.randint(-SIXTY, SIXTY) for _ in range(4)), draw.randint(1, SIXTY)) for _ in range(many))
            lattice = Lattice(ELEVEN, fours)
            self.assertTrue(all(is_member(lattice, four) for four in fours))
            self.assertEqual(lattice.bottom, lcm(*[four.bottom for four in fours]))
            self.assertEqual(Lattice(ELEVEN, fours[::-1]), lattice)
            self.assertIs(fours[0].scaled(Ratio(1, 2)) in lattice, is_member(lattice, fours[0].scaled(Ratio(1, 2))))

    def test_told_rows(self):
        self.assertEqual((PLAIN.rows, PLAIN.bottom), (((1, 0, 0, 0), (0, 1, 0, 0), (0, 0, 1, 0), (0, 0, 0, 1)), 1))
        self.assertEqual((HURWITZ.rows, HURWITZ.bottom), (((1, 1, 1, 1), (0, 2, 0, 0), (0, 0, 2, 0), (0, 0, 0, 2)), 2))
        sparse = Lattice(SPLIT, tuple(four.scaled(6) for four in SPLIT.basis()) + (Four(SPLIT, (0, 0, 4, 0)),))
        self.assertEqual((sparse.rows, sparse.bottom), (((6, 0, 0, 0), (0, 6, 0, 0), (0, 0, 2, 0), (0, 0, 0, 6)), 1))

    def test_refused(self):
        for value in NO_ALGEBRAS:
            self.error_of(InvalidAlgebra, Lattice, value, None)
            self.error_of(InvalidAlgebra, Lattice, value, (ONE, I, J, K))
        zero = ONE - ONE
        wrong = VALUES + (
            (ONE, I, J), (ONE, I, J, J), (ONE, I, J, I + J), (ONE, I, J, zero), (zero,) * 40, (ONE, I, J, I, J, ONE, zero),
            [ONE, I, J, K], (ONE, I, J, 1), (ONE, I, J, None), (ONE, I, J, True), (ONE, I, J, Ratio(1)), (ONE, I, J, K) * 11,
            (ONE, I, J, K) * 10 + (ONE,), (ONE, I, J, K, 1), (ONE, I, J, K, ELEVEN.basis()[0]), ELEVEN.basis(), ((ONE, I, J, K),),
            {0: ONE, 1: I, 2: J, 3: K}, (ONE, I, J, PLAIN), (HAMILTON,) * 4,
        )
        for value in wrong:
            if value != (ONE, I, J, K):
                self.error_of(InvalidLattice, Lattice, HAMILTON, value)
        self.assertEqual(Lattice(HAMILTON, (ONE, I, J, K) * 10), PLAIN)


class Members(Case):

    def test_members(self):
        draw = random.Random(34)
        for algebra in ALGEBRAS:
            for size, bottom, many in ((4, 2, 4), (SIXTY, 6, 5)):
                lattice = random_lattice(draw, algebra, size, bottom, many)
                for _ in range(20):
                    four = random_member(draw, lattice)
                    self.assertIs(four in lattice, True)
                    for near in (four.scaled(Ratio(1, draw.randint(2, 5))), four + algebra.basis()[draw.randrange(4)].scaled(Ratio(1, lattice.bottom))):
                        self.assertIs(near in lattice, is_member(lattice, near))
                for four in lattice.basis():
                    self.assertIs(four.scaled(Ratio(1, 2)) in lattice, False)
                self.assertIs(four - four in lattice, True)

    def test_every_value(self):
        for value in VALUES + ((ONE,), ELEVEN.basis()[0], Four(SPLIT, (0, 0, 0, 0))):
            told = isinstance(value, Four) and value.algebra == HAMILTON
            self.assertIs(value in HURWITZ, told)
        self.assertIs(made_four(HAMILTON, (10 ** 90, 1, 0, 0), 1) in PLAIN, True)
        self.assertIs(made_four(HAMILTON, (10 ** 90, 1, 0, 0), 2) in HURWITZ, False)
        self.assertIs(made_four(HAMILTON, (10 ** 90 + 1, 1, 3, -7), 2) in HURWITZ, True)

    def test_equality(self):
        other = Lattice(Algebra(-1, -4), Algebra(-1, -4).basis())
        self.assertEqual((other.rows, other.bottom), (PLAIN.rows, PLAIN.bottom))
        self.assertIs(PLAIN == other, False)
        self.assertIs(PLAIN != other, True)
        self.assertIs(PLAIN == Lattice(Algebra(-1, -1), (K, J, I, ONE)), True)
        self.assertIs(PLAIN != Lattice(HAMILTON, (K, J, I, ONE)), False)
        self.assertIs(PLAIN == HURWITZ or PLAIN == PLAIN.scaled(2), False)
        for value in VALUES:
            if not isinstance(value, Lattice):
                self.assertIs(PLAIN == value, False)
                self.assertIs(PLAIN != value, True)

    def test_no_iteration(self):
        with self.assertRaises(TypeError):
            iter(PLAIN)
        with self.assertRaises(TypeError):
            list(PLAIN)


class Operations(Case):

    def pairs(self, many=6):
        draw = random.Random(35)
        for algebra in ALGEBRAS:
            for size, bottom in ((3, 2), (30, 12), (10 ** 20, 10 ** 3)):
                for _ in range(many):
                    yield draw, random_lattice(draw, algebra, size, bottom), random_lattice(draw, algebra, size, bottom, 5)

    def test_sums(self):
        for draw, one, other in self.pairs():
            both = one + other
            self.assertEqual(both, Lattice(one.algebra, one.basis() + other.basis()))
            self.assertEqual(both, other + one)
            self.assertIs(both.holds(one) and both.holds(other), True)
            self.assertIs(random_member(draw, one) + random_member(draw, other) in both, True)

    def test_meets(self):
        for draw, one, other in self.pairs():
            meet = one & other
            self.assertEqual(meet, other & one)
            self.assertIs(one.holds(meet) and other.holds(meet), True)
            # [5.5]: the index tells that nothing is left out.
            self.assertEqual(meet.index_in(one), other.index_in(one + other))
            self.assertEqual(meet.index_in(other), one.index_in(one + other))
            for _ in range(6):
                four = random_member(draw, one)
                self.assertIs(four in meet, four in other)
                four = random_member(draw, meet)
                self.assertIs(four in one and four in other, True)

    def test_products(self):
        for draw, one, other in self.pairs(3):
            made = one * other
            fours = tuple(left * right for left in one.basis() for right in other.basis())
            self.assertEqual(made, Lattice(one.algebra, fours))
            self.assertIs(random_member(draw, one) * random_member(draw, other) in made, True)
            third = random_lattice(draw, one.algebra, 5, 4)
            self.assertEqual((one * other) * third, one * (other * third))
            self.assertEqual(one * (other + third), one * other + one * third)
            self.assertEqual((other + third) * one, other * one + third * one)

    def test_holding(self):
        for draw, one, other in self.pairs():
            for first, second in ((one, other), (one + other, one), (one, one & other), (one, one.scaled(3)), (one, one)):
                told = all(is_member(first, four) for four in second.basis())
                self.assertIs(first.holds(second), told)
                self.assertIs(first + second == first, told)
                self.assertIs(first & second == second, told)
            self.assertIs(one.scaled(2).holds(one), False)

    def test_indices(self):
        for draw, one, other in self.pairs():
            third = random_lattice(draw, one.algebra, 5, 4)
            self.assertEqual(one.index_in(other) * other.index_in(third), one.index_in(third))
            self.assertEqual(one.index_in(one), 1)
            self.assertEqual(one.scaled(Ratio(2, 3)).index_in(one), Ratio(16, 81))
            four = random_four(draw, one.algebra, 9, 4)
            square = four.norm * four.norm
            self.assertEqual(one.by(four).index_in(one), square)
            self.assertEqual(one.ahead(four).index_in(one), square)
            self.assertIs(type(one.index_in(other)), Ratio)
        self.assertEqual([str(PLAIN.index_in(HURWITZ)), str(HURWITZ.index_in(PLAIN))], ["2", "1/2"])

    def test_counted_classes(self):
        # [5.2]: the index of a lattice in one that holds it is the number of the classes.
        small = Lattice(HAMILTON, (ONE.scaled(2), I.scaled(3), J + K, K.scaled(2)))
        found = []
        for w in range(2):
            for x in range(3):
                for y in range(2):
                    for z in range(2):
                        four = Four(HAMILTON, (w, x, y, z))
                        if not any(four - other in small for other in found):
                            found.append(four)
        self.assertEqual(small.index_in(PLAIN), len(found))

    def test_multiplied(self):
        for draw, one, other in self.pairs(3):
            four = random_four(draw, one.algebra, 9, 4)
            self.assertEqual(one.by(four), Lattice(one.algebra, tuple(part * four for part in one.basis())))
            self.assertEqual(one.ahead(four), Lattice(one.algebra, tuple(four * part for part in one.basis())))
            self.assertEqual(one.by(four).by(four.inverse()), one)
            self.assertEqual(one.ahead(four.inverse()).ahead(four), one)
            self.assertEqual(one.by(four).mates(), one.mates().ahead(four.mate()))
            self.assertEqual(one.mates(), Lattice(one.algebra, tuple(part.mate() for part in one.basis())))
            self.assertEqual(one.mates().mates(), one)
            for ratio in (2, -2, Ratio(3, 4), Ratio(-7, 2), SIXTY):
                self.assertEqual(one.scaled(ratio), Lattice(one.algebra, tuple(part.scaled(ratio) for part in one.basis())))

    def test_norms(self):
        for draw, one, other in self.pairs(4):
            norm = one.lattice_norm()
            self.assertIs(type(norm), Ratio)
            self.assertEqual(norm.sign, 1)
            basis = one.basis()
            norms = [four.norm for four in basis] + [(left + right).norm for left, right in combinations(basis, 2)]
            bottom = lcm(*[ratio.bottom for ratio in norms])
            top = gcd(*[ratio.top * (bottom // ratio.bottom) for ratio in norms])
            self.assertEqual(norm, made_ratio(top, bottom))
            for _ in range(4):
                self.assertEqual(random_member(draw, one).norm.over(norm).bottom, 1)
            four = random_four(draw, one.algebra, 9, 4)
            size = four.norm if four.norm.sign == 1 else -four.norm
            self.assertEqual(one.by(four).lattice_norm(), norm * size)
            self.assertEqual(one.ahead(four).lattice_norm(), norm * size)
            self.assertEqual(one.mates().lattice_norm(), norm)
        self.assertEqual([PLAIN.lattice_norm() == 1, GREAT.lattice_norm() == 1], [True, True])

    def test_kept_orders(self):
        # [5.4]
        for draw, one, other in self.pairs(3):
            left, right = one.left_order(), one.right_order()
            for order, is_left in ((left, True), (right, False)):
                self.assertIs(is_order(order), True)
                self.assertIs(one.holds(order * one if is_left else one * order), True)
                # Nothing greater keeps the lattice: no part by a prime of a member that is none of the order.
                for prime in (2, 3, 5):
                    for _ in range(12):
                        four = random_member(draw, order).scaled(Ratio(1, prime))
                        kept = all((four * part if is_left else part * four) in one for part in one.basis())
                        self.assertIs(four in order, kept)
            self.assertEqual(one.mates().left_order(), right)
            self.assertEqual(one.mates().right_order(), left)
            four = random_four(draw, one.algebra, 9, 4)
            self.assertEqual(one.by(four).left_order(), left)
            self.assertEqual(one.by(four).right_order(), right.ahead(four.inverse()).by(four))
            self.assertEqual(one.ahead(four).right_order(), right)
        self.assertEqual([PLAIN.left_order(), HURWITZ.right_order(), HURWITZ.scaled(Ratio(5, 3)).left_order()], [PLAIN, HURWITZ, HURWITZ])

    def test_objects_do_not_change(self):
        rows = HURWITZ.rows
        HURWITZ + PLAIN, HURWITZ & PLAIN, HURWITZ * PLAIN, HURWITZ.scaled(2), HURWITZ.by(HALF), HURWITZ.left_order()
        self.assertEqual((HURWITZ.rows, HURWITZ.bottom, PLAIN.bottom), (rows, 2, 1))
        self.assertEqual(plain_order(HAMILTON), PLAIN)


class Refused(Case):

    def test_operands(self):
        for value in NO_LATTICES:
            for deed in (lambda: PLAIN + value, lambda: PLAIN & value, lambda: PLAIN * value):
                self.error_of(TypeError, deed)
        for deed in (lambda: 1 + PLAIN, lambda: HALF * PLAIN, lambda: Ratio(1) * PLAIN, lambda: None & PLAIN, lambda: HALF + PLAIN):
            self.error_of(TypeError, deed)
        for other in (GREAT, plain_order(Algebra(-1, -4)), plain_order(SPLIT)):
            for deed in (lambda: PLAIN + other, lambda: PLAIN & other, lambda: PLAIN * other, lambda: other * PLAIN):
                self.error_of(InvalidLattice, deed)

    def test_methods(self):
        for function in (PLAIN.by, PLAIN.ahead):
            for value in NO_FOURS + (PLAIN, ONE - ONE, ELEVEN.basis()[0], SPLIT.basis()[0]):
                self.error_of(InvalidFour, function, value)
        split = plain_order(SPLIT)
        for function in (split.by, split.ahead):
            for four in (Four(SPLIT, (1, 1, 0, 0)), Four(SPLIT, (0, 0, 0, 0)), ONE):
                self.error_of(InvalidFour, function, four)
        for value in NO_RATIOS + (0, Ratio(0), PLAIN, False):
            self.error_of(InvalidRatio, PLAIN.scaled, value)
        for function in (PLAIN.index_in, PLAIN.holds):
            for value in NO_LATTICES + (GREAT, split):
                self.error_of(InvalidLattice, function, value)


if __name__ == "__main__":
    unittest.main()
