"""The examples of the document, as they stand there: stages 1 and 2, and of stage 3 what speaks of points."""

import unittest

from signfours.base.numbers import factors, is_prime, residue_sign, square_free
from signfours.base.ratios import Ratio
from signfours.four.fours import Algebra, Four
from signfours.four.leading import four_of_turn, is_leading, is_turn, leading, turn_of, turned
from signfours.place.signs import is_local_point, is_square_at, local_point, sign_at, signed_places
from signfours.split.points import is_point, is_small_point, point_on, small_point

HAMILTON, ELEVEN = Algebra(-1, -1), Algebra(-1, -11)
SPLIT, TEN = Algebra(1, 1), Algebra(2, 5)


class Examples(unittest.TestCase):

    def test_places_of_the_algebras(self):
        self.assertEqual([HAMILTON.places, ELEVEN.places, TEN.places, SPLIT.places], [(0, 2), (0, 11), (2, 5), ()])

    def test_ratios(self):
        self.assertEqual(
            [str(Ratio(6, -4)), Ratio.read("-3/2") == Ratio(6, -4), Ratio(3) == 3, (Ratio(1, 2) + 1).top, Ratio(1, 3).compared(0), str(Ratio(2).over(4))],
            ['-3/2', True, True, 3, 1, '1/2'])

    def test_numbers(self):
        self.assertEqual(
            [factors(-360), square_free(-360), residue_sign(-3, 7), residue_sign(-3, 2), residue_sign(0, 5), is_prime(1)],
            [{2: 3, 3: 2, 5: 1}, -10, 1, -1, 0, False])

    def test_signs(self):
        self.assertEqual(
            [signed_places(-1, -1), signed_places(-1, -11), signed_places(2, 5), signed_places(5, -1), sign_at(3, 7, 3), sign_at(3, 7, 7)],
            [(0, 2), (0, 11), (2, 5), (), 1, -1])
        self.assertEqual(
            [is_square_at(-7, 2), is_square_at(-7, 0), is_square_at(18, 7), local_point(-1, -1, 2), is_local_point(-1, -1, 3, (1, 1, 1)), is_local_point(-1, -1, 3, (1, 1, 2))],
            [True, False, True, None, True, True])

    def test_fours(self):
        one, i, j, k = HAMILTON.basis()
        self.assertEqual(
            [str(i * j), str(j * i), str((one + i + j + k) * (one - i)), (i + j).norm == 2, str((i + j).inverse()), str(Four(ELEVEN, (2, 4, -2, 0), 4))],
            ['k', '-k', '2+2k', True, '(-i-j)/2', '(1+2i-j)/2'])
        self.assertEqual(
            [ELEVEN.places, ELEVEN.discriminant, TEN.is_definite, SPLIT.is_tables, str(TEN), [str(four * four) for four in ELEVEN.basis()]],
            [(0, 11), 11, False, True, '(2, 5)', ['1', '-1', '-11', '-11']])

    def test_leading(self):
        one, i, j, k = HAMILTON.basis()
        self.assertEqual(
            [is_leading(i, j, i + j), leading(i, i + j), str(turned(one + i, j)), turn_of(one + i) == ((Ratio(1), Ratio(0), Ratio(0)), (Ratio(0), Ratio(0), Ratio(-1)), (Ratio(0), Ratio(1), Ratio(0)))],
            [True, None, 'k', True])
        self.assertEqual(
            [is_turn(HAMILTON, turn_of(one + i)), turn_of(four_of_turn(HAMILTON, turn_of(one + i))) == turn_of(one + i), str((one + i).power(-2))],
            [True, True, '(-i)/2'])

    def test_points(self):
        self.assertEqual(
            [is_point(2, 7, (1, 1, 3)), is_point(2, 7, (0, 0, 0)), point_on(2, 5), point_on(-1, -1), is_point(-1, 2, (1, 1, 1)), point_on(1, 5) is None],
            [True, False, None, None, True, False])
        self.assertEqual(
            [is_small_point(3, 5, 2, (1, 1, 2)), is_small_point(3, 5, 2, (3, 3, 6)), small_point(1, 1, 3), is_small_point(1, 1, 2, (1, -1, 1)), is_small_point(7, 2, 1, (1, 1, 3))],
            [True, False, None, True, True])


if __name__ == "__main__":
    unittest.main()
