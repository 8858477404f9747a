"""The examples of the document, as they stand there."""

import unittest

from signfours.base.numbers import factors, is_prime, residue_sign, square_free
from signfours.base.ratios import Ratio
from signfours.desk.desk import Desk
from signfours.errors import InvalidNumber, InvalidOperation, InvalidOrder, ParseError, Refused
from signfours.form.threes import (
    are_forms_alike, form_discriminant, form_of, form_value, is_form, is_form_lead, is_turning_basis, three_form, value_counts,
)
from signfours.form.twos import (
    class_number, fours_with, is_reduced, is_reducing, reduced, reduced_forms, summand, trace_by_forms, unit_number,
)
from signfours.four.fours import Algebra, Four
from signfours.four.leading import four_of_turn, is_leading, is_turn, leading, turn_of, turned
from signfours.ideal.classes import Book, classes_by_rule, is_book, mass
from signfours.ideal.ideals import (
    are_one_class, generator, ideal_of, ideals_of, inverse, is_between, is_generator, is_ideal, is_primitive_in, neighbours,
)
from signfours.ideal.tables import (
    is_balanced, is_joined, primitive_table, table_of_neighbours, table_product, table_trace, ways_table,
)
from signfours.order.lattices import Lattice
from signfours.order.norms import counts_to, fours_of, least_weight, units
from signfours.order.orders import (
    greater, greatest_over, is_greatest, is_order, is_outside, order_discriminant, plain_order,
)
from signfours.place.signs import is_local_point, is_square_at, local_point, sign_at, signed_places
from signfours.split.alike import (
    are_alike, has_root, images, is_common_root, is_images, is_root_paper, joined, joined_places, root_paper,
)
from signfours.split.points import is_point, is_small_point, point_on, small_point
from signfours.split.tables import algebra_at, four_of_table, is_table_pair, table_of, table_pair, zero_norm
from signfours.text.formats import read_four, read_lattice, write_algebra, write_four
from signfours.whole.hurwitz import (
    exchange, factors_along, is_common, is_divided, is_exchange, is_factors, is_primitive, is_whole, whole_lattice,
)
from signfours.whole.points import exchange_order, points_of
from signfours.whole.squares import count_four_squares, count_whole, four_squares, is_three_squares, three_squares, two_squares
from signfours.whole.webs import Web, chosen_fours, point_of

HAMILTON, ELEVEN = Algebra(-1, -1), Algebra(-1, -11)
SPLIT, TEN = Algebra(1, 1), Algebra(2, 5)


class Examples(unittest.TestCase):

    def test_places_of_the_algebras(self):
        self.assertEqual([HAMILTON.places, ELEVEN.places, TEN.places, SPLIT.places], [(0, 2), (0, 11), (2, 5), ()])

    def test_ratios(self):
        self.assertEqual(
            [str(Ratio(6, -4)), Ratio.read("-3/2") == Ratio(6, -4), Ratio(3) == 3, (Ratio(1, 2) + 1).top, Ratio(1, 3).compared(0), str(Ratio(2).over(4))],
            ['-3/2', True, True, 3, 1, '1/2'])

    def test_numbers(self):
        self.assertEqual(
            [factors(-360), square_free(-360), residue_sign(-3, 7), residue_sign(-3, 2), residue_sign(0, 5), is_prime(1)],
            [{2: 3, 3: 2, 5: 1}, -10, 1, -1, 0, False])

    def test_signs(self):
        self.assertEqual(
            [signed_places(-1, -1), signed_places(-1, -11), signed_places(2, 5), signed_places(5, -1), sign_at(3, 7, 3), sign_at(3, 7, 7)],
            [(0, 2), (0, 11), (2, 5), (), 1, -1])
        self.assertEqual(
            [is_square_at(-7, 2), is_square_at(-7, 0), is_square_at(18, 7), local_point(-1, -1, 2), is_local_point(-1, -1, 3, (1, 1, 1)), is_local_point(-1, -1, 3, (1, 1, 2))],
            [True, False, True, None, True, True])

    def test_fours(self):
        one, i, j, k = HAMILTON.basis()
        self.assertEqual(
            [str(i * j), str(j * i), str((one + i + j + k) * (one - i)), (i + j).norm == 2, str((i + j).inverse()), str(Four(ELEVEN, (2, 4, -2, 0), 4))],
            ['k', '-k', '2+2k', True, '(-i-j)/2', '(1+2i-j)/2'])
        self.assertEqual(
            [ELEVEN.places, ELEVEN.discriminant, TEN.is_definite, SPLIT.is_tables, str(TEN), [str(four * four) for four in ELEVEN.basis()]],
            [(0, 11), 11, False, True, '(2, 5)', ['1', '-1', '-11', '-11']])

    def test_leading(self):
        one, i, j, k = HAMILTON.basis()
        self.assertEqual(
            [is_leading(i, j, i + j), leading(i, i + j), str(turned(one + i, j)), turn_of(one + i) == ((Ratio(1), Ratio(0), Ratio(0)), (Ratio(0), Ratio(0), Ratio(-1)), (Ratio(0), Ratio(1), Ratio(0)))],
            [True, None, 'k', True])
        self.assertEqual(
            [is_turn(HAMILTON, turn_of(one + i)), turn_of(four_of_turn(HAMILTON, turn_of(one + i))) == turn_of(one + i), str((one + i).power(-2))],
            [True, True, '(-i)/2'])

    def test_points(self):
        self.assertEqual(
            [is_point(2, 7, (1, 1, 3)), is_point(2, 7, (0, 0, 0)), point_on(2, 5), point_on(-1, -1), is_point(-1, 2, (1, 1, 1)), point_on(1, 5) is None],
            [True, False, None, None, True, False])
        self.assertEqual(
            [is_small_point(3, 5, 2, (1, 1, 2)), is_small_point(3, 5, 2, (3, 3, 6)), small_point(1, 1, 3), is_small_point(1, 1, 2, (1, -1, 1)), is_small_point(7, 2, 1, (1, 1, 3))],
            [True, False, None, True, True])

    def test_tables(self):
        ONE, NO = Ratio(1), Ratio(0)
        PAIR = (((ONE, NO), (NO, -ONE)), ((NO, ONE), (ONE, NO)))
        self.assertEqual(
            [is_table_pair(SPLIT, PAIR), is_table_pair(SPLIT, (PAIR[0], PAIR[0])), is_table_pair(TEN, PAIR), table_pair(TEN), zero_norm(HAMILTON), zero_norm(SPLIT).norm == NO],
            [True, False, False, None, None, True])
        table = table_of(Four(SPLIT, (1, 2, 3, 4)), PAIR)
        self.assertEqual(
            ([[str(entry) for entry in row] for row in table], four_of_table(SPLIT, PAIR, table) == Four(SPLIT, (1, 2, 3, 4))),
            ([['3', '7'], ['-1', '-1']], True))
        self.assertEqual(
            [algebra_at((2, 5)).places, algebra_at((0, 11)).places, algebra_at(()).is_tables, algebra_at((0, 2, 3, 7)).discriminant],
            [(2, 5), (0, 11), True, 42])
        with self.assertRaises(Refused) as caught:
            algebra_at((0, 2, 3))
        self.assertEqual(caught.exception.reason, ("odd", 3))

    def test_alike_algebras_and_roots(self):
        other, unit, third = Algebra(-1, -2), Four(HAMILTON, (0, 1, 0, 0)), Four(HAMILTON, (0, 0, 1, 1))
        self.assertEqual(
            [are_alike(other, HAMILTON), is_images(other, HAMILTON, (unit, third)), is_images(HAMILTON, HAMILTON, (unit, third)), images(HAMILTON, ELEVEN)],
            [True, True, False, None])
        self.assertEqual(
            [root_paper(HAMILTON, -7), root_paper(HAMILTON, 2), has_root(HAMILTON, -3), has_root(SPLIT, 7), has_root(ELEVEN, -2)],
            [('place', 2), ('place', 0), True, True, False])
        self.assertEqual(
            [is_root_paper(HAMILTON, -3, ("root", Four(HAMILTON, (0, 1, 1, 1)))), is_root_paper(HAMILTON, -3, ("place", 2)), is_root_paper(HAMILTON, 17, ("place", 2)), is_root_paper(HAMILTON, -2, ("place", 11))],
            [True, False, True, False])
        self.assertEqual(
            [is_common_root(HAMILTON, ELEVEN, -1), is_common_root(HAMILTON, ELEVEN, -7), joined_places(HAMILTON, ELEVEN), joined(HAMILTON, ELEVEN).places, joined_places(ELEVEN, ELEVEN)],
            [True, False, (2, 11), (2, 11), ()])
        with self.assertRaises(InvalidNumber) as caught:
            root_paper(HAMILTON, 9)
        self.assertEqual(caught.exception.given, 9)

    def test_lattices_and_orders(self):
        PLAIN, HALF = plain_order(HAMILTON), Four(HAMILTON, (1, 1, 1, 1), 2)
        HURWITZ = Lattice(HAMILTON, PLAIN.basis() + (HALF,))
        self.assertEqual(
            [str(PLAIN), str(HURWITZ), HALF in HURWITZ, HALF in PLAIN, 1 in PLAIN, str(PLAIN.index_in(HURWITZ)), HURWITZ.holds(PLAIN)],
            ['1 0 0 0/0 1 0 0/0 0 1 0/0 0 0 1 over 1', '1 1 1 1/0 2 0 0/0 0 2 0/0 0 0 2 over 2', True, False, False, '2', True])
        self.assertEqual(
            [order_discriminant(PLAIN), order_discriminant(HURWITZ), is_greatest(PLAIN), greatest_over(PLAIN) == HURWITZ, order_discriminant(plain_order(ELEVEN)), order_discriminant(plain_order(SPLIT))],
            [4, 2, False, True, 44, 4])
        ONE, I, J, K = ELEVEN.basis()
        GREAT = Lattice(ELEVEN, (ONE, I, Four(ELEVEN, (1, 0, 1, 0), 2), Four(ELEVEN, (0, 1, 0, 1), 2)))
        self.assertEqual(
            [str(GREAT), is_order(GREAT), order_discriminant(GREAT), str(GREAT.lattice_norm()), greater(GREAT)],
            ['1 0 1 0/0 1 0 1/0 0 2 0/0 0 0 2 over 2', True, 11, '1', None])
        IDEAL = GREAT.by(ONE + I)
        self.assertEqual(
            [str(IDEAL.lattice_norm()), str(IDEAL.index_in(GREAT)), IDEAL.left_order() == GREAT, IDEAL.mates().left_order() == IDEAL.right_order(), IDEAL.bottom, IDEAL.scaled(Ratio(1, 2)).bottom],
            ['2', '4', True, True, 2, 4])
        ODD = Lattice(ELEVEN, (ONE, I, J, K.scaled(Ratio(2))))
        self.assertEqual(
            [is_order(ODD), is_outside(ODD, ("product", I, J)), is_outside(ODD, ("one",)), is_outside(GREAT, None), is_outside(GREAT.scaled(Ratio(2)), ("one",))],
            [False, True, False, True, True])
        with self.assertRaises(InvalidOrder):
            greatest_over(ODD)
        self.assertEqual(I * Four(ELEVEN, (1, 0, 1, 0), 2), Four(ELEVEN, (0, 1, 0, 1), 2))

    def test_norms(self):
        plain, best = plain_order(HAMILTON), greatest_over(plain_order(HAMILTON))
        self.assertEqual(
            [counts_to(plain, 4), counts_to(best, 4), len(units(plain)), len(units(best)), least_weight(best.scaled(Ratio(3, 2)))],
            [(1, 8, 24, 32, 24), (1, 24, 24, 96, 24), 8, 24, 1])
        self.assertEqual(
            ([str(one) for one in units(plain)][:3], [one.norm == Ratio(2) for one in fours_of(plain, 2)] == [True] * 24, fours_of(plain, 0) == (Four(HAMILTON, (0, 0, 0, 0)),)),
            (['-1', '-i', '-j'], True, True))
        with self.assertRaises(Refused) as caught:
            units(plain_order(SPLIT))
        self.assertEqual(caught.exception.reason, ("definite",))

    def test_ideals(self):
        HURWITZ = greatest_over(plain_order(HAMILTON))
        ONE, I, J, K = ELEVEN.basis()
        GREAT = Lattice(ELEVEN, (ONE, I, Four(ELEVEN, (1, 0, 1, 0), 2), Four(ELEVEN, (0, 1, 0, 1), 2)))
        self.assertEqual(
            [[len(neighbours(HURWITZ, prime)) for prime in (2, 3, 5)], [len(ideals_of(HURWITZ, norm)) for norm in (1, 4, 6, 9)], len(neighbours(GREAT, 11))],
            [[1, 4, 6], [1, 1, 4, 13], 1])
        one, i, j, k = HAMILTON.basis()
        left = ideal_of(HURWITZ, (one + i + j, one.scaled(3)))
        self.assertEqual(
            [str(left.lattice_norm()), is_generator(left, one + i + j), is_generator(left, i * (one + i + j)), is_generator(left, (one + i + j) * i), left * inverse(left) == HURWITZ],
            ['3', True, True, False, True])
        TWOS = neighbours(GREAT, 2)
        self.assertEqual(
            [len(TWOS), GREAT.by(ONE + I) in TWOS, [generator(two) is None for two in TWOS].count(True), are_one_class(GREAT, GREAT.by(J)), is_between(GREAT, GREAT.by(ONE + I), I + ONE)],
            [3, True, 2, True, True])
        self.assertEqual(
            [is_primitive_in(HURWITZ, left), is_primitive_in(HURWITZ, HURWITZ.scaled(Ratio(2))), is_ideal(plain_order(HAMILTON)), is_ideal(HURWITZ.scaled(Ratio(1, 3)))],
            [True, False, False, True])
        with self.assertRaises(InvalidOperation):
            generator(greatest_over(plain_order(TEN)))

    def test_classes(self):
        ORDER = greatest_over(plain_order(ELEVEN))
        book = Book(ORDER)
        self.assertEqual(
            [len(book), sorted(book.weights), str(mass(ORDER)), book.ideals[0] == ORDER, book.index(ORDER), book.kinds()],
            [2, [4, 6], '5/12', True, 0, ((0,), (1,))])
        self.assertEqual(
            [classes_by_rule(primes) for primes in ((2,), (3,), (5,), (7,), (13,), (11,), (2, 3, 5), (37,))],
            [1, 1, 1, 1, 1, 2, 2, 3])
        self.assertEqual(
            [is_book(ORDER, book.ideals), is_book(ORDER, book.ideals[::-1]), is_book(ORDER, book.ideals[:1]), is_book(ORDER, (ORDER, ORDER)), book.lead(0, 1)],
            [True, True, False, False, None])
        two = Book(greatest_over(plain_order(HAMILTON)))
        self.assertEqual(
            [str(two), two.kinds(), two.order in two, is_book(two.order, (two.order.by(Four(HAMILTON, (1, 2, 0, 3), 5)),))],
            ['book of 1 classes: weights 24', ((0,),), True, True])

    def test_tables_of_neighbours(self):
        book = Book(greatest_over(plain_order(ELEVEN)))
        four, six = book.weights.index(4), book.weights.index(6)
        two, three = table_of_neighbours(book, 2), table_of_neighbours(book, 3)
        self.assertEqual(
            [len(two), two[four][four], two[four][six], two[six][four], two[six][six], three[four][four], three[four][six], three[six][four], three[six][six]],
            [2, 1, 2, 3, 0, 2, 2, 3, 1])
        self.assertEqual(
            [table_product(two, three) == table_of_neighbours(book, 6) == table_product(three, two), [sum(row) for row in table_of_neighbours(book, 6)], table_of_neighbours(book, 11)],
            [True, [12, 12], ((1, 0), (0, 1))])
        self.assertEqual(
            [table_trace(two), is_balanced(book, two), is_balanced(book, ((0, 1), (1, 0))), is_joined(book, 2), is_joined(book, 11)],
            [1, True, False, True, False])
        fours = primitive_table(book, 4)
        self.assertEqual(
            [fours[four][four], fours[six][four], ways_table(book, 2, 2) == fours, [sum(row) for row in ways_table(book, 2, 3)], ways_table(book, 3, 0)],
            [4, 3, True, [12, 12], ((1, 0), (0, 1))])

    def test_forms_in_two_unknowns(self):
        self.assertEqual(
            [reduced_forms(23), class_number(12), class_number(21), unit_number(3), unit_number(4), is_reduced((2, 2, 2)), is_reduced((2, -2, 3))],
            [((1, 1, 6), (2, -1, 3), (2, 1, 3)), 1, 0, 6, 4, True, False])
        self.assertEqual(
            [reduced((3, 5, 4))[0], is_reducing((3, 5, 4), ((2, 1, 3), ((-1, -1), (1, 0)))), is_reducing((3, 5, 4), ((2, 1, 3), ((1, 0), (0, 1))))],
            [(2, 1, 3), True, False])
        self.assertEqual(
            ([trace_by_forms((11,), many) for many in (1, 2, 3)], [str(summand((11,), trace, 3)) for trace in (0, 1, 2, 3, 4)]),
            ([2, 1, 3], ['4/3', '1/2', '0', '1/3', '0']))
        best = greatest_over(plain_order(HAMILTON))
        self.assertEqual(
            [fours_with(best, 0, 1), fours_with(best, 1, 1), fours_with(best, 2, 1), str(summand((2,), 0, 1)), str(summand((2,), 2, 1))],
            [6, 8, 1, '1/4', '1/24'])

    def test_forms_in_three_unknowns(self):
        WHOLE, WHOLE3 = greatest_over(plain_order(HAMILTON)), (4, 4, 3, 4, 4, 0)
        self.assertEqual(
            [is_form(WHOLE3), form_discriminant(WHOLE3), form_value(WHOLE3, 1, 0, -1), value_counts(WHOLE3, 8), is_form((1, 1, 1, 2, 0, 0)), is_form((1, 0, 0, 0, 0, 0))],
            [True, 64, 3, (1, 0, 0, 8, 6, 0, 0, 0, 12), False, False])
        I, J = Four(HAMILTON, (0, 2, 0, 0)), Four(HAMILTON, (0, 0, 2, 0))
        self.assertEqual(
            [form_of((I, J, Four(HAMILTON, (0, 1, 1, 1)))) == WHOLE3, is_turning_basis(WHOLE, (I, J, Four(HAMILTON, (0, 1, 1, 1)))), is_turning_basis(WHOLE, (I, J, J))],
            [True, True, False])
        self.assertEqual(
            [are_forms_alike(three_form(WHOLE), WHOLE3), are_forms_alike((1, 1, 16, 0, 0, 0), WHOLE3), is_form_lead(WHOLE3, WHOLE3, ((0, -1, -1), (1, 0, 0), (0, 0, 1)))],
            [True, False, True])

    def test_whole_fours(self):
        ONE, I, J, K = HAMILTON.basis()
        HALF, ODD = Four(HAMILTON, (1, 1, 1, 1), 2), ONE + I + J
        self.assertEqual(
            [is_whole(HALF), is_whole(HALF + ONE), is_whole(ONE.scaled(Ratio(1, 2))), HALF in whole_lattice(), is_primitive(HALF + HALF), is_primitive(HALF + ONE)],
            [True, True, False, True, False, True])
        self.assertEqual(
            [is_divided(ONE.scaled(5), ONE + I, (Four(HAMILTON, (2, -3, 0, 0)), I)), is_divided(ODD, ODD, (ONE, ODD - ODD)), is_common(ONE.scaled(3), ODD, (ODD, ODD - ODD, ONE))],
            [True, True, True])
        EVEN = (ONE + I) * ODD
        self.assertEqual(
            [str(EVEN), is_primitive(EVEN), is_factors(EVEN, (2, 3), (ONE + I, ODD)), is_factors(EVEN, (2, 3), ((ONE + I) * HALF, HALF.mate() * ODD)), len(factors_along(EVEN, (3, 2)))],
            ['2i+j+k', True, True, True, 2])
        FOUR = ONE.scaled(2) + I
        self.assertEqual(
            [[str(point) for point in points_of(3)], exchange_order(FOUR, 3), is_exchange(ODD, FOUR, exchange(ODD, FOUR))],
            [['(-3-i-j-k)/2', '(-3-i-j+k)/2', '(-3-i+j-k)/2', '(-3-i+j+k)/2'], (2, 0, 3, 1), True])
        self.assertEqual(
            [[count_four_squares(number) for number in (1, 2, 3, 4)], count_whole(6), four_squares(12), three_squares(28), two_squares(21), is_three_squares(14, (-3, 1, 2))],
            [[8, 24, 32, 24], 96, ((2, 2, 2, 0), (3, 1, 1, 1)), None, None, True])

    def test_webs(self):
        web = Web(5, 3)
        self.assertEqual(
            [[str(one) for one in chosen_fours(5)][:2], len(chosen_fours(13)), len(web), len(web.sides[0]), len(Web(13, 3)), Web(13, 3).sides],
            [['1-2i', '1-2j'], 14, 24, 12, 12, None])
        self.assertEqual(web.neighbours_of((1, 0, 0, 0)), ((1, 1, 0, 0), (1, 0, 1, 0), (1, 0, 0, 1), (1, 0, 0, 2), (1, 0, 2, 0), (1, 2, 0, 0)))
        self.assertEqual(
            [web.ways(1), web.ways(2), web.ways(4), web.straight_ways(2), web.straight_ways(4), point_of(Four(HAMILTON, (2, 1, 0, 0)), 3)],
            [0, 6, 120, 0, 54, (1, 2, 0, 0)])
        with self.assertRaises(InvalidNumber) as caught:
            Web(7, 3)
        self.assertEqual(caught.exception.given, 7)

    def test_texts_and_a_desk(self):
        HALF = Four(HAMILTON, (1, 1, 1, 1), 2)
        self.assertEqual(
            [write_four(HALF), read_four("(-1, -1): 1 1 1 1/2") == HALF, write_algebra(ELEVEN), read_lattice("(-1, -1): 1 0 0 0; 0 1 0 0; 0 0 1 0; 0 0 0 1") == plain_order(HAMILTON)],
            ['(-1, -1): 1 1 1 1/2', True, '(-1, -11)', True])
        for text, spot in (("(-1, -1): 2 0 0 0/2", 2), ("(-1, 0): 2 0 0 0", 0)):
            with self.assertRaises(ParseError) as caught:
                read_four(text)
            self.assertEqual(caught.exception.spot, spot)
        desk = Desk(HAMILTON)
        desk.do(("put", "h", HALF), ("put", "plain", plain_order(HAMILTON)), ("put", "best", greatest_over(plain_order(HAMILTON))))
        self.assertEqual([desk.say(saying) for saying in (("member", "h", "best"), ("within", "plain", "best"), ("greatest", "best"))], [None, None, None])
        self.assertEqual(
            [desk.is_true(("member", "h", "plain")), desk.is_true(("norm", "h", Ratio(1))), desk.past, str(desk)],
            [False, True, 4, 'desk of (-1, -1): 3 things, 3 sayings'])
        with self.assertRaises(Refused) as caught:
            desk.do(("meet", "best", "plain", "best"))
        self.assertEqual(caught.exception.reason, ('broken', ('member', 'h', 'best')))
        desk.do(("lead", Four(HAMILTON, (1, 1, 0, 0))), ("scale", "plain", Ratio(2)))
        self.assertEqual([desk["h"] == HALF, desk.is_true(("order", "plain")), desk.past], [False, False, 5])


if __name__ == "__main__":
    unittest.main()
