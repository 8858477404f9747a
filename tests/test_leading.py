"""Leading, turned fours and turns: [2.2], [2.3]."""

import random
import unittest
from itertools import product as every

from signfours.base.ratios import Ratio
from signfours.errors import InvalidAlgebra, InvalidFour, InvalidOperation, Refused
from signfours.four.fours import Algebra, Four
from signfours.four.leading import four_of_turn, is_leading, is_turn, leading, turn_of, turned
from tests.support import ALGEBRAS, Case, ELEVEN, HAMILTON, NO_ALGEBRAS, NO_FOURS, NO_INTEGERS, SIXTY, SPLIT, TEN

DRAWN = ALGEBRAS + (Algebra(1, -1), Algebra(4, 9), Algebra(2, 7), Algebra(-1, 2), Algebra(5, -1))


def drawn(draw, algebra, size=4):
    return Four(algebra, tuple(draw.randint(-size, size) for _ in range(4)), draw.randint(1, size))


def drawn_with_norm(draw, algebra, size=4):
    while True:
        four = drawn(draw, algebra, size)
        if four.norm:
            return four


def is_multiple(one, other):
    """Whether the one, other than 0, is the other one times a ratio."""
    pairs = list(zip(one.entries, other.entries))
    return bool(one) and bool(other) and all(a * d == b * c for (a, b), (c, d) in every(pairs, pairs))


def with_entry(table, row, column, entry):
    rows = [list(line) for line in table]
    rows[row][column] = entry
    return tuple(tuple(line) for line in rows)


def times(one, other):
    return tuple(
        tuple(one[row][0] * other[0][at] + one[row][1] * other[1][at] + one[row][2] * other[2][at] for at in range(3))
        for row in range(3)
    )


def determinant(table):
    (a, b, c), (d, e, f), (g, h, i) = table
    return a * (e * i - f * h) - b * (d * i - f * g) + c * (d * h - e * g)


def table_of(numbers):
    return tuple(tuple(Ratio(number) for number in row) for row in numbers)


class Leading(Case):

    def judge(self, one, other):
        told = (one.is_ratio and one == other) or (
            not one.is_ratio and not other.is_ratio and one.trace == other.trace and one.norm == other.norm
        )
        found = leading(one, other)
        if not told:
            self.assertIsNone(found)
            return
        self.assertIs(type(found), Four)
        self.assertEqual(found.algebra, one.algebra)
        self.assertTrue(found.norm)
        self.assertEqual(found * one, other * found)
        self.assertIs(is_leading(one, other, found), True)
        self.assertEqual(found * one * found.inverse(), other)
        self.assertEqual(turned(found, one), other)

    def test_drawn_fours_that_are_led(self):
        draw = random.Random(37)
        for algebra in DRAWN:
            for _ in range(40):
                one, lead = drawn(draw, algebra), drawn_with_norm(draw, algebra)
                other = lead * one * lead.inverse()
                self.assertIs(is_leading(one, other, lead), True)
                self.judge(one, other)
                self.judge(other, one)
                self.judge(one, one)
                self.judge(one, one.mate())
                self.judge(one, drawn(draw, algebra))

    def test_all_small_fours_of_one_trace(self):
        # In an algebra of tables some fours other than 0 have a power 0 or no inverse.
        for algebra in (SPLIT, HAMILTON, Algebra(1, -1), Algebra(4, -3)):
            for w in (0, 1):
                fours = [Four(algebra, (w,) + rest, 2) for rest in every((-1, 0, 1), repeat=3)]
                for one in fours:
                    for other in fours:
                        self.judge(one, other)

    def test_ratios(self):
        for algebra in DRAWN:
            one, i, j, k = algebra.basis()
            for size in (Ratio(0), Ratio(1), Ratio(-5, 3)):
                ratio = one.scaled(size)
                self.judge(ratio, ratio)
                self.assertIs(is_leading(ratio, ratio, j), True)
                self.assertIs(is_leading(ratio, ratio, ratio - ratio), False)
                for other in (one.scaled(size + 1), ratio + i, ratio + j, ratio + i + j, i, k):
                    self.assertIsNone(leading(ratio, other))
                    self.assertIsNone(leading(other, ratio))
        # One trace and one norm, and yet not led: i + k has the power 0 by 2 here.
        null, other = Four(SPLIT, (0, 0, 0, 0)), Four(SPLIT, (0, 1, 0, 1))
        self.assertEqual([other.trace == null.trace, other.norm == null.norm], [True, True])
        self.assertEqual([leading(null, other), leading(other, null)], [None, None])
        self.judge(other, -other)
        self.judge(other, Four(SPLIT, (0, 0, 1, 1)))

    def test_long_integers(self):
        draw = random.Random(41)
        for algebra in (HAMILTON, SPLIT, ELEVEN):
            for _ in range(6):
                one, lead = drawn(draw, algebra, SIXTY), drawn_with_norm(draw, algebra, SIXTY)
                self.judge(one, turned(lead, one))

    def test_judged_values(self):
        one, i, j, k = HAMILTON.basis()
        self.assertIs(is_leading(i, j, i + j), True)
        self.assertIs(is_leading(i, j, (i + j).scaled(Ratio(-2, 3))), True)
        self.assertIs(is_leading(i, j, one + k), True)
        self.assertIs(is_leading(j, i, one + k), False)
        self.assertIs(is_leading(i, j, one), False)
        self.assertIs(is_leading(i, i, one), True)
        self.assertIs(is_leading(i, i, i), True)
        self.assertIs(is_leading(i, i, j), False)
        self.assertIs(is_leading(i, -i, j), True)
        self.assertIs(is_leading(i, i + j, one - one), False)
        self.assertIs(is_leading(i, j, one - one), False)
        self.assertIs(is_leading(i, j, Four(ELEVEN, (0, 1, 1, 0))), False)
        self.assertIs(is_leading(i, j, Four(SPLIT, (0, 1, 1, 0))), False)
        null = Four(SPLIT, (1, 1, 0, 0))
        self.assertEqual([null.norm == 0, null * Four(SPLIT, (0, 1, 0, 0)) == Four(SPLIT, (0, 1, 0, 0)) * null], [True, True])
        self.assertIs(is_leading(Four(SPLIT, (0, 1, 0, 0)), Four(SPLIT, (0, 1, 0, 0)), null), False)
        for value in NO_FOURS + (10 ** 99, (0, 1, 1, 0), [i + j]):
            self.assertIs(is_leading(i, j, value), False)

    def test_refused(self):
        i, other = HAMILTON.basis()[1], ELEVEN.basis()[1]
        for function, rest in ((leading, ()), (turned, ()), (is_leading, (i,)), (is_leading, (None,))):
            for value in NO_FOURS:
                self.error_of(InvalidFour, function, value, i, *rest)
                self.error_of(InvalidFour, function, i, value, *rest)
                self.error_of(InvalidFour, function, value, value, *rest)
            self.error_of(InvalidFour, function, i, other, *rest)
            self.error_of(InvalidFour, function, other, i, *rest)
        self.assertIs(is_leading(Four(Algebra(-1, -1), (0, 1, 0, 0)), i, i), True)


class Turned(Case):

    def test_drawn(self):
        draw = random.Random(43)
        for algebra in DRAWN:
            for _ in range(25):
                lead, one, other = drawn_with_norm(draw, algebra), drawn(draw, algebra), drawn(draw, algebra)
                found = turned(lead, one)
                self.assertEqual(found * lead, lead * one)
                self.assertEqual([found.trace, found.norm], [one.trace, one.norm])
                self.assertEqual(turned(lead, one * other), found * turned(lead, other))
                self.assertEqual(turned(lead, one + other), found + turned(lead, other))

    def test_refused(self):
        one = Four(SPLIT, (0, 1, 0, 0))
        for null in (Four(SPLIT, (0, 0, 0, 0)), Four(SPLIT, (1, 1, 0, 0)), Four(SPLIT, (0, 1, 0, 1))):
            self.same(self.error_of(Refused, turned, null, one).reason, ("norm",))
            self.same(self.error_of(Refused, turned, null, null).reason, ("norm",))
            # What stands behind "then" is behind all other errors.
            for value in (None, HAMILTON.basis()[1], 1, "x"):
                self.error_of(InvalidFour, turned, null, value)
            self.assertEqual(turned(one, null), one * null * one.inverse())


class Turns(Case):

    def is_turn_by_rule(self, algebra, table):
        """By [2.3]: the norms are kept, so those of sums of two units, too, and the determinant is 1."""
        a, b = algebra.a, algebra.b

        def norm(x, y, z):
            return x * x * -a + y * y * -b + z * z * (a * b)

        for x, y, z in every((0, 1), repeat=3):
            image = [row[0] * x + row[1] * y + row[2] * z for row in table]
            if norm(*image) != norm(x, y, z):
                return False
        return determinant(table) == 1

    def test_columns(self):
        draw = random.Random(47)
        for algebra in DRAWN:
            for _ in range(12):
                lead = drawn_with_norm(draw, algebra)
                table = turn_of(lead)
                self.assertEqual([type(table), [type(row) for row in table], len(table)], [tuple, [tuple] * 3, 3])
                for at, unit in enumerate(algebra.basis()[1:]):
                    image = lead * unit * lead.inverse()
                    self.assertEqual(image.entries[0], 0)
                    for row in range(3):
                        self.assertIs(type(table[row][at]), Ratio)
                        self.assertEqual(table[row][at] * image.bottom, image.entries[row + 1])
                self.assertTrue(self.is_turn_by_rule(algebra, table))
                self.assertIs(is_turn(algebra, table), True)

    def test_products_and_multiples(self):
        draw = random.Random(53)
        for algebra in DRAWN:
            for _ in range(8):
                one, other = drawn_with_norm(draw, algebra), drawn_with_norm(draw, algebra)
                self.assertEqual(turn_of(one * other), times(turn_of(one), turn_of(other)))
                self.assertEqual(turn_of(one.scaled(Ratio(-3, 5))), turn_of(one))
                self.assertEqual(turn_of(one) == turn_of(other), is_multiple(one, other))

    def test_four_of_turn(self):
        draw = random.Random(59)
        for algebra in DRAWN:
            units = algebra.basis()
            leads = [drawn_with_norm(draw, algebra) for _ in range(10)] + list(units) + [unit + units[0] for unit in units]
            for lead in leads:
                if not lead.norm:
                    continue
                found = four_of_turn(algebra, turn_of(lead))
                self.assertIs(type(found), Four)
                self.assertEqual(found.algebra, algebra)
                self.assertTrue(is_multiple(found, lead))
                self.assertEqual(turn_of(found), turn_of(lead))

    def test_four_of_turn_can_be_passed_on(self):
        draw = random.Random(61)
        for algebra in (HAMILTON, ELEVEN, SPLIT, TEN):
            for _ in range(20):
                lead = drawn_with_norm(draw, algebra, 10 ** 14)
                found = four_of_turn(algebra, turn_of(lead))
                self.assertTrue(all(abs(part) <= SIXTY for part in found.entries + (found.bottom,)))
                self.assertTrue(is_multiple(found, lead))
            lead = drawn_with_norm(draw, algebra, SIXTY)
            self.assertTrue(is_multiple(four_of_turn(algebra, turn_of(lead)), lead))

    def test_turns_that_are_written_down(self):
        self.assertIs(is_turn(HAMILTON, table_of(((0, 0, 1), (1, 0, 0), (0, 1, 0)))), True)
        self.assertIs(is_turn(HAMILTON, table_of(((0, 1, 0), (1, 0, 0), (0, 0, 1)))), False)
        self.assertIs(is_turn(HAMILTON, table_of(((0, 1, 0), (1, 0, 0), (0, 0, -1)))), True)
        self.assertIs(is_turn(HAMILTON, table_of(((0, -1, 0), (1, 0, 0), (0, 0, 1)))), True)
        self.assertIs(is_turn(SPLIT, table_of(((0, -1, 0), (1, 0, 0), (0, 0, 1)))), True)
        self.assertIs(is_turn(SPLIT, table_of(((0, 0, 1), (1, 0, 0), (0, 1, 0)))), False)
        self.assertIs(is_turn(ELEVEN, table_of(((0, -1, 0), (1, 0, 0), (0, 0, 1)))), False)
        self.assertIs(is_turn(ELEVEN, table_of(((-1, 0, 0), (0, 1, 0), (0, 0, -1)))), True)
        self.assertIs(is_turn(ELEVEN, table_of(((0, 0, 11), (0, 1, 0), (-1, 0, 0)))), False)
        third, two = Ratio(1, 3), Ratio(2, 3)
        table = ((third, -two, two), (two, -third, -two), (two, two, third))
        self.assertIs(is_turn(HAMILTON, table), True)
        self.assertEqual(turn_of(four_of_turn(HAMILTON, table)), table)

    def test_signs_of_units(self):
        # Of the eight tables with 1 or -1 on the diagonal alone four are turns, in each algebra.
        for algebra in DRAWN:
            for x, y, z in every((1, -1), repeat=3):
                table = table_of(((x, 0, 0), (0, y, 0), (0, 0, z)))
                self.assertIs(is_turn(algebra, table), x * y * z == 1)
                if x * y * z == 1:
                    self.assertEqual(turn_of(four_of_turn(algebra, table)), table)
                else:
                    self.error_of(InvalidOperation, four_of_turn, algebra, table)

    def test_diagonals(self):
        # Two of the three norms can be kept, the determinant can be 1, or k can be led as i j is.
        half = Ratio(1, 2)
        for algebra in DRAWN:
            for x, y, z in (
                (1, 2, 2), (2, 1, 2), (2, 2, 4), (2, 2, 1), (1, 1, 2), (1, 2, 1), (2, 1, 1), (1, 2, half), (2, 1, half),
                (2, half, 1), (half, 2, 1), (-1, 2, -2), (2, -1, -2), (half, half, 4), (half, 1, half), (1, half, half),
            ):
                table = table_of(((1, 0, 0), (0, 1, 0), (0, 0, 1)))
                for at, size in enumerate((x, y, z)):
                    table = with_entry(table, at, at, table[at][at] * size)
                self.assertIs(is_turn(algebra, table), self.is_turn_by_rule(algebra, table))
                self.assertIs(is_turn(algebra, table), False)
                self.error_of(InvalidOperation, four_of_turn, algebra, table)

    def test_tables_near_turns(self):
        draw = random.Random(67)
        for algebra in DRAWN:
            table = turn_of(drawn_with_norm(draw, algebra))
            near = [with_entry(table, row, at, table[row][at] + size) for row in range(3) for at in range(3)
                    for size in (1, Ratio(-1, 7))]
            near += [tuple(tuple(-entry for entry in row) for row in table), table[::-1], tuple(row[::-1] for row in table)]
            near += [tuple(tuple(entry * 2 for entry in row) for row in table), (table[0], table[0], table[2])]
            near += [tuple((-row[0], row[1], row[2]) for row in table), tuple((row[0], row[1], -row[2]) for row in table)]
            near += [tuple(zip(*table))]
            for other in near:
                told = self.is_turn_by_rule(algebra, other)
                self.assertIs(is_turn(algebra, other), told)
                if not told:
                    self.error_of(InvalidOperation, four_of_turn, algebra, other)
            self.assertIs(is_turn(algebra, near[18]), False)

    def test_turns_of_another_algebra(self):
        # 1 + j exchanges i and k but for signs, and their norms are unlike in ELEVEN.
        table = turn_of(Four(HAMILTON, (1, 0, 1, 0)))
        self.assertIs(is_turn(HAMILTON, table), True)
        self.assertIs(is_turn(ELEVEN, table), False)
        self.error_of(InvalidOperation, four_of_turn, ELEVEN, table)

    def test_every_value(self):
        unit = table_of(((1, 0, 0), (0, 1, 0), (0, 0, 1)))
        self.assertIs(is_turn(HAMILTON, unit), True)
        no_turns = NO_INTEGERS + (
            0, 1, 10 ** 99, ((1, 0, 0), (0, 1, 0), (0, 0, 1)), list(unit), [list(row) for row in unit],
            tuple(list(row) for row in unit), unit[:2], unit + (unit[0],), unit[:2] + (unit[2][:2],),
            unit[:2] + (unit[2] + (Ratio(0),),), with_entry(unit, 0, 0, 1), with_entry(unit, 0, 1, 0),
            with_entry(unit, 2, 2, True), with_entry(unit, 1, 0, False), with_entry(unit, 1, 1, None),
            with_entry(unit, 1, 1, "1"), with_entry(unit, 2, 2, HAMILTON.basis()[0]), unit[:2] + (None,), (unit, unit, unit),
            table_of(((0, 0, 0), (0, 0, 0), (0, 0, 0))), table_of(((1, 1, 0), (0, 1, 0), (0, 0, 1))),
        )
        for value in no_turns:
            self.assertIs(is_turn(HAMILTON, value), False)
            self.error_of(InvalidOperation, four_of_turn, HAMILTON, value)

    def test_refused(self):
        unit = table_of(((1, 0, 0), (0, 1, 0), (0, 0, 1)))
        for value in NO_ALGEBRAS:
            self.error_of(InvalidAlgebra, is_turn, value, unit)
            self.error_of(InvalidAlgebra, is_turn, value, None)
            self.error_of(InvalidAlgebra, four_of_turn, value, unit)
            self.error_of(InvalidAlgebra, four_of_turn, value, None)
        for value in NO_FOURS:
            self.error_of(InvalidFour, turn_of, value)
        for null in (Four(SPLIT, (0, 0, 0, 0)), Four(SPLIT, (1, 1, 0, 0)), Four(HAMILTON, (0, 0, 0, 0))):
            self.same(self.error_of(Refused, turn_of, null).reason, ("norm",))


if __name__ == "__main__":
    unittest.main()
