"""Forms in three unknowns: [11.1] to [11.6]."""

import random
import unittest
from fractions import Fraction
from itertools import product
from math import prod

from signfours.base.ratios import Ratio
from signfours.errors import InvalidForm, InvalidFour, InvalidOperation, InvalidOrder
from signfours.form.threes import (
    are_forms_alike, form_discriminant, form_lead, form_of, form_value, is_form, is_form_lead, is_turning_basis, three_form,
    turning_basis, value_counts,
)
from signfours.four.fours import Algebra, Four, made_four
from signfours.four.leading import four_of_turn, is_turn
from signfours.ideal.classes import Book
from signfours.order.lattices import Lattice
from signfours.order.norms import counts_to, fours_of
from signfours.order.orders import greatest_over, is_order, order_discriminant, plain_order
from tests.support import (
    Case, ELEVEN, GREAT, HALF, HAMILTON, HURWITZ, I, J, K, LONG, NO_INTEGERS, NO_LATTICES, ONE, PLAIN, SIXTY, SPLIT, TEN, TOO_LONG,
    VALUES, led, random_four,
)
from tests.test_classes import orders, placed

WHOLE3 = (4, 4, 3, 4, 4, 0)
MOST = 1000000
NO_FORMS = tuple(value for value in VALUES if value != WHOLE3) + (
    (1, 1, 1, 2, 0, 0), (1, 0, 0, 0, 0, 0), (0, 1, 1, 0, 0, 0), (-1, -1, -1, 0, 0, 0), (1, 1, 1, 0, 0, 2), (1, 1, 0, 0, 0, 0),
    (1, 1, 1, 1, 1, -1, 0), (1, 1, 1, 0, 0), (True, 1, 1, 0, 0, 0), (1, 1, 1, False, 0, 0), (1, 1, 1, 0, 0, None), [1, 1, 1, 0, 0, 0],
    (Ratio(1), 1, 1, 0, 0, 0), (1, 1, MOST + 1, 0, 0, 0), (MOST, MOST, MOST, -MOST - 1, 0, 0), (1, 1, LONG, 0, 0, 0),
    (1, 1, -1, 0, 0, 0), (1, 1, 1, 2, 2, 2), (1, 1, 1, -1, -1, -2), ("1", 1, 1, 0, 0, 0), ((1, 1, 1, 0, 0, 0),),
)
NO_DEFINITE = NO_LATTICES + (HURWITZ.scaled(2), HURWITZ.by(ONE + I + J), plain_order(SPLIT), plain_order(TEN), greatest_over(plain_order(TEN)))
# Forms of one discriminant with equal counts of small values that are not alike.
UNLIKE = (
    ((1, 3, 12, -2, 0, 0), (1, 3, 12, -1, -1, 0)), ((1, 3, 12, 0, 0, 0), (1, 3, 13, -3, -1, 0)),
    ((1, 4, 12, -2, 0, 1), (1, 4, 12, -1, -1, 1)), ((3, 7, 12, -4, -2, 2), (3, 7, 12, -1, -3, 2)),
    ((3, 7, 12, -4, -2, 2), (3, 7, 13, -7, -1, 2)), ((3, 7, 12, 0, 0, 3), (3, 7, 13, -5, 0, 3)),
)


def value(form, x, y, z):
    a, b, c, d, e, f = form
    return a * x * x + b * y * y + c * z * z + d * y * z + e * x * z + f * x * y


def discriminant(form):
    a, b, c, d, e, f = form
    return 4 * a * b * c + d * e * f - a * d * d - b * e * e - c * f * f


def is_told_form(form):
    a, b, c, d, e, f = form
    return max(map(abs, form)) <= MOST and a > 0 and 4 * a * b - f * f > 0 and discriminant(form) > 0


def led_by(form, table):
    """The form to which a table leads a form, told by its values."""
    def at(x, y, z):
        return value(form, *[row[0] * x + row[1] * y + row[2] * z for row in table])
    a, b, c = at(1, 0, 0), at(0, 1, 0), at(0, 0, 1)
    return a, b, c, at(0, 1, 1) - b - c, at(1, 0, 1) - a - c, at(1, 1, 0) - a - b


def determinant(rows):
    (a, b, c), (d, e, f), (g, h, i) = rows
    return a * (e * i - f * h) - b * (d * i - f * g) + c * (d * h - e * g)


def drawn_table(draw, many=5, size=3):
    rows = [[1, 0, 0], [0, 1, 0], [0, 0, 1]]
    for _ in range(many):
        at, to = draw.sample(range(3), 2)
        turn = draw.randint(-size, size)
        rows[at] = [entry + turn * other for entry, other in zip(rows[at], rows[to])]
    return tuple(tuple(row) for row in rows)


def drawn_form(draw, size=30):
    while True:
        form = tuple(draw.randint(1, size) for _ in range(3)) + tuple(draw.randint(-size, size) for _ in range(3))
        if is_told_form(form) and discriminant(form) <= MOST:
            return form


def box(form, most):
    """The greatest sizes of the integers of a triple with a value to a bound, or a bit more."""
    a, b, c, d, e, f = form
    told = discriminant(form)
    return [int((most * part / told) ** 0.5) + 1 for part in (4 * b * c - d * d, 4 * a * c - e * e, 4 * a * b - f * f)]


def boxed_counts(form, most):
    """The counts of the values, by a search through a box that has all triples."""
    counts = [0] * (most + 1)
    for x, y, z in product(*[range(-size, size + 1) for size in box(form, most)]):
        found = value(form, x, y, z)
        if found <= most:
            counts[found] += 1
    return tuple(counts)


class Forms(Case):

    def test_is_form(self):
        draw = random.Random(1101)
        for _ in range(3000):
            form = tuple(draw.randint(-2, 5) for _ in range(3)) + tuple(draw.randint(-6, 6) for _ in range(3))
            told = is_told_form(form)
            self.assertIs(is_form(form), told)
            if told:
                self.same(form_discriminant(form), discriminant(form))
                self.assertTrue(all(value(form, *point) > 0 for point in product(range(-3, 4), repeat=3) if any(point)))
            else:
                self.error_of(InvalidForm, form_discriminant, form)
        for form in ((1, 1, 1, 0, 0, 0), WHOLE3, (MOST, MOST, MOST, MOST, MOST, MOST), (MOST, MOST, MOST, -MOST, MOST, -MOST), (1, 1, MOST, 0, 0, 0)):
            self.assertIs(is_form(form), True)
            self.assertEqual(form_discriminant(form), discriminant(form))
        for given in NO_FORMS:
            self.assertIs(is_form(given), False, given)

    def test_values(self):
        draw = random.Random(1102)
        for _ in range(200):
            form = drawn_form(draw)
            point = [draw.randint(-size, size) for size in draw.choice(((3, 3, 3), (SIXTY, 9, SIXTY), (SIXTY, SIXTY, SIXTY)))]
            self.same(form_value(form, *point), value(form, *point))
        self.assertEqual(form_value((MOST, MOST, MOST, 0, 0, 0), SIXTY, -SIXTY, SIXTY), 3 * MOST * SIXTY * SIXTY)
        for given in NO_INTEGERS + TOO_LONG:
            self.no_number(given, form_value, WHOLE3, given, None, None)
            self.no_number(given, form_value, WHOLE3, 1, given, None)
            self.no_number(given, form_value, WHOLE3, 1, 0, given)

    def test_counts(self):
        draw = random.Random(1103)
        forms, tried = [drawn_form(draw, draw.choice((3, 9, 30))) for _ in range(40)], 0
        for form in forms + [WHOLE3, (1, 1, 1, 0, 0, 0), (1, 1, 1, 1, 1, 1), (1, 1, 1, -1, -1, 0), (2, 2, 2, -2, 1, 1)]:
            if prod(box(form, 60)) < 2000:
                tried += 1
                self.same(value_counts(form, 60), boxed_counts(form, 60))
            moved = led_by(form, drawn_table(draw))
            if is_told_form(moved):
                self.assertEqual(value_counts(moved, 40), value_counts(form, 40))
        self.assertGreater(tried, 20)
        self.assertEqual(value_counts(WHOLE3, 0), (1,))
        self.assertEqual(value_counts((17, 19, 31, 1, 2, 3), 1000), boxed_counts((17, 19, 31, 1, 2, 3), 1000))
        # Long and thin: integers near the bound, with small values.
        circles, squares = [0] * 1001, [0] * 1001
        for y, z in product(range(-31, 32), repeat=2):
            if y * y + z * z <= 1000:
                circles[y * y + z * z] += 1
                squares[y * y] += 1 if z == 0 else 0
        self.assertEqual(value_counts((1, 1, MOST, 0, 0, 0), 1000), tuple(circles))
        self.assertEqual(value_counts((MOST, 1, 1, 0, 0, 0), 1000), tuple(circles))
        self.assertEqual(value_counts((1, 999999, MOST, 0, 1, 0), 1000), tuple(squares))
        self.assertEqual(value_counts((MOST, MOST, MOST, 0, 0, 0), 1000), (1,) + (0,) * 1000)
        skew = led_by((1, 1, 1, 0, 0, 0), ((1, 300, 700), (0, 1, 300), (0, 0, 1)))
        self.assertEqual(value_counts(skew, 1000), value_counts((1, 1, 1, 0, 0, 0), 1000))
        for given in NO_INTEGERS + TOO_LONG + (-1, 1001):
            self.no_number(given, value_counts, WHOLE3, given)

    def test_no_forms(self):
        for given in NO_FORMS:
            self.error_of(InvalidForm, form_discriminant, given)
            self.error_of(InvalidForm, form_value, given, None, 1, 1)
            self.error_of(InvalidForm, value_counts, given, -1)
            for function in (are_forms_alike, form_lead):
                self.error_of(InvalidForm, function, given, WHOLE3)
                self.error_of(InvalidForm, function, WHOLE3, given)
                self.error_of(InvalidForm, function, (MOST, MOST, MOST, 0, 0, 0), given)
            self.error_of(InvalidForm, is_form_lead, given, WHOLE3, None)
            self.error_of(InvalidForm, is_form_lead, WHOLE3, given, None)


class Leads(Case):

    def judged(self, one, other):
        """A lead that is told for alike forms is one by its own sums."""
        table = form_lead(one, other)
        self.assertEqual(determinant(table), 1)
        self.assertEqual(led_by(one, table), other)
        self.assertIs(is_form_lead(one, other, table), True)
        self.assertIs(are_forms_alike(one, other), True)
        self.same(table, form_lead(one, other))
        self.assertTrue(all(type(entry) is int and abs(entry) <= SIXTY for row in table for entry in row))
        return table

    def test_led_forms(self):
        draw = random.Random(1104)
        made = 0
        while made < 300:
            form = draw.choice((drawn_form(draw, draw.choice((2, 5, 60))), WHOLE3, (1, 1, 250000, 0, 0, 0), (1, 500, 500, 0, 1, 1)))
            table = drawn_table(draw, draw.randint(0, 6), draw.choice((1, 3, 50)))
            other = led_by(form, table)
            if not is_told_form(other) or discriminant(form) > MOST:
                continue
            made += 1
            self.assertIs(is_form_lead(form, other, table), True)
            self.judged(form, other)
            self.judged(other, form)
        skew = led_by((1, 1, 1, 0, 0, 0), ((1, 300, 700), (0, 1, 300), (0, 0, 1)))
        self.judged(skew, (1, 1, 1, 0, 0, 0))

    def test_unlike_forms(self):
        draw = random.Random(1105)
        for one, other in UNLIKE + (((1, 1, 16, 0, 0, 0), WHOLE3), ((2, 2, 2, 0, 0, 0), (2, 2, 3, 0, 0, 0))):
            moved = led_by(other, drawn_table(draw))
            for there in (other, moved):
                self.assertIsNone(form_lead(one, there))
                self.assertIsNone(form_lead(there, one))
                self.assertIs(are_forms_alike(one, there), False)
            if (one, other) in UNLIKE:
                self.assertEqual(discriminant(one), discriminant(other))
                self.assertEqual(value_counts(one, 11), value_counts(other, 11))
        # Alike forms have equal counts and discriminants; these have both but for greater values.
        self.assertNotEqual(value_counts(UNLIKE[0][0], 30), value_counts(UNLIKE[0][1], 30))

    def test_all_small_forms(self):
        # Forms are alike exactly if a table with small entries leads one to the other.
        tables = [rows for rows in product(product((-1, 0, 1), repeat=3), repeat=3) if determinant(rows) == 1]
        forms = [form for form in product((1, 2), (1, 2), (1, 2, 3), (-1, 0, 1), (-1, 0, 1), (-1, 0, 1)) if is_told_form(form)]
        reach = {form: {led_by(form, table) for table in tables} for form in forms[::12]}
        for one in forms[::12]:
            for other in forms[::4]:
                told = other in reach[one]
                self.assertIs(are_forms_alike(one, other), told, (one, other))
                if told:
                    self.judged(one, other)

    def test_leads_near_a_right_one(self):
        right = ((0, -1, -1), (1, 0, 0), (0, 0, 1))
        self.assertIs(is_form_lead(WHOLE3, WHOLE3, right), True)
        for at, to in product(range(3), repeat=2):
            for worth in (-2, -1, 0, 1, 2, True, False, None, Ratio(1), "1", LONG):
                rows = [list(row) for row in right]
                rows[at][to] = worth
                table = tuple(tuple(row) for row in rows)
                told = type(worth) is int and worth < 3 and determinant(table) == 1 and led_by(WHOLE3, table) == WHOLE3
                self.assertIs(is_form_lead(WHOLE3, WHOLE3, table), told)
        opposite = tuple(tuple(-entry for entry in row) for row in right)
        self.assertEqual(led_by(WHOLE3, opposite), WHOLE3)
        for given in (opposite, [*right], right[:2], right + ((0, 0, 0),), tuple(list(row) for row in right), right[0], None) + VALUES:
            self.assertIs(is_form_lead(WHOLE3, WHOLE3, given), False, given)
        # Columns and rows are told apart, and so are both forms.
        form, table = (1, 2, 5, 0, 1, 1), ((1, 2, 0), (0, 1, 1), (0, 0, 1))
        other = led_by(form, table)
        self.assertIs(is_form_lead(form, other, table), True)
        self.assertIs(is_form_lead(form, other, tuple(zip(*table))), False)
        self.assertIs(is_form_lead(other, form, table), False)
        far = ((1, LONG, 0), (0, 1, 0), (0, 0, 1))
        self.assertIs(is_form_lead(WHOLE3, WHOLE3, far), False)
        big = (MOST, MOST, MOST, 0, 0, 0)
        self.assertIs(is_form_lead(big, big, ((0, 1, 0), (0, 0, 1), (1, 0, 0))), True)

    def test_leads_to_itself(self):
        tables = [rows for rows in product(product((-1, 0, 1), repeat=3), repeat=3) if determinant(rows) == 1]
        for form, many in (((1, 1, 1, 0, 0, 0), 24), ((1, 2, 3, 0, 0, 0), 4), ((1, 1, 2, 0, 0, 0), 8)):
            self.assertEqual(len([table for table in tables if is_form_lead(form, form, table)]), many)

    def test_bound(self):
        big, bigger = (1, 1, 250000, 0, 0, 0), (1, 1, 250000, 0, 0, -1)
        for function in (are_forms_alike, form_lead):
            self.assertIsNot(function(big, big), None)
            self.too_many(1000000, function, (1, 1, 250001, 0, 0, 0), big)
            self.too_many(1000000, function, big, (1, 1, 250001, 0, 0, 0))
            self.too_many(1000000, function, (MOST, MOST, MOST, 0, 0, 0), (MOST, MOST, MOST, 0, 0, 0))
            self.assertFalse(function(big, bigger))

    def test_what_is_not_true(self):
        # [11.6]
        self.assertEqual(form_discriminant((1, 1, 16, 0, 0, 0)), form_discriminant(WHOLE3))
        self.assertEqual(value_counts(WHOLE3, 7)[7], 0)
        self.assertIs(is_form_lead((1, 1, 1, 0, 0, 0), (1, 1, 1, 0, 0, 0), ((-1, 0, 0), (0, 1, 0), (0, 0, 1))), False)
        self.assertIs(is_form_lead((1, 1, 1, 0, 0, 0), (1, 1, 1, 0, 0, 0), ((1, 0, 0), (0, -1, 0), (0, 0, -1))), True)


class Turnings(Case):

    def orders(self):
        draw = random.Random(1106)
        yield from (HURWITZ, PLAIN, GREAT, plain_order(ELEVEN))
        for primes in ((2,), (7,), (29,), (2, 3, 5), (101,), (991,), (997,)):
            best = greatest_over(plain_order(placed(primes)))
            four = random_four(draw, best.algebra, 3)
            yield from (best, led(best, four), best & led(best, four), led(best, random_four(draw, best.algebra, SIXTY, SIXTY)))
            for many in (2, 3, 10):
                yield Lattice(best.algebra, tuple(one.scaled(many) for one in best.basis()) + best.algebra.basis()[:1])
        # One long side: all of Z[i], and a multiple of the other fours; the discriminant is 4 many many.
        for many in (15, 16, 300):
            yield Lattice(HAMILTON, (ONE, I, J.scaled(many), K.scaled(many)))

    def test_bases(self):
        tried, great = 0, 0
        for order in self.orders():
            told = order_discriminant(order)
            if told > 1000:
                great += 1
                self.too_many(1000, turning_basis, order)
                self.too_many(1000, three_form, order)
                continue
            tried += 1
            basis = turning_basis(order)
            self.assertEqual(turning_basis(order), basis)
            self.judged(order, basis)
            form = form_of(basis)
            self.assertIs(is_form(form), True)
            self.assertEqual(form_discriminant(form), 16 * told * told)
            self.assertEqual(form[:3], tuple(four.norm.top for four in basis))
            self.assertEqual(three_form(order), form)
            counts = value_counts(form, 60)
            self.assertFalse([at for at in range(61) if counts[at] and at % 4 in (1, 2)])
        self.assertTrue(tried > 30 and great > 5)

    def test_bound(self):
        for a, b in ((-1, -250), (-2, -125), (-10, -25)):
            order = plain_order(Algebra(a, b))
            self.assertEqual(order_discriminant(order), 1000)
            self.judged(order, turning_basis(order))
            self.assertEqual(form_discriminant(three_form(order)), 16 * 10 ** 6)
        order = plain_order(Algebra(-1, -251))
        self.assertEqual(order_discriminant(order), 1004)
        self.too_many(1000, turning_basis, order)
        self.assertIs(is_turning_basis(order, tuple(four.scaled(2) for four in order.algebra.basis()[1:])), True)

    def judged(self, order, basis):
        """A triple of fours is a basis of all 2 x - t for members x of the order."""
        self.assertIs(is_turning_basis(order, basis), True)
        one = order.algebra.basis()[0]
        # With 1 they make a lattice that has the turnings of the basis of the order, and no more.
        joined = Lattice(order.algebra, basis + (one,))
        turnings = [four.scaled(2) - one.scaled(four.trace) for four in order.basis()]
        self.assertEqual(joined, Lattice(order.algebra, tuple(turnings) + (one, one.scaled(2), one.scaled(3))))
        self.assertTrue(all(four.trace == 0 for four in basis))

    def test_great_orders(self):
        # A turning basis is judged whatever its form is.
        draw = random.Random(1107)
        for order in (Lattice(HAMILTON, (ONE, I, J.scaled(10 ** 9), K.scaled(10 ** 9))), Lattice(HAMILTON, (ONE,) + tuple(four.scaled(10 ** 8) for four in PLAIN.basis()))):
            self.assertIs(is_order(order), True)
            self.too_many(1000, turning_basis, order)
            basis = tuple(four.scaled(2) - ONE.scaled(four.trace) for four in order.basis()[1:])
            self.assertIs(is_turning_basis(order, basis), True)
            self.assertIs(is_turning_basis(order, (basis[0], basis[1], basis[2].scaled(2))), False)
            self.error_of(InvalidOperation, form_of, basis)
        order = led(GREAT, random_four(draw, ELEVEN, SIXTY))
        basis = turning_basis(order)
        self.assertIs(is_turning_basis(order, basis), True)
        self.assertIs(is_turning_basis(GREAT, basis), False)

    def test_near_bases(self):
        basis = (I.scaled(2), J.scaled(2), I + J + K)
        right = [basis, basis[::-1], (-basis[0], basis[1], basis[2]), (basis[0] + basis[1], basis[1], basis[2]), (basis[0], basis[2], basis[1] - basis[2].scaled(5))]
        right.append((I - J - K, I + J + K, I + J - K))
        for told in right:
            self.judged(HURWITZ, told)
        other = Algebra(-1, -2)
        wrong = [
            (I, J, I + J + K), (I.scaled(2), J.scaled(2), K.scaled(2)), (I.scaled(2), J.scaled(2), J.scaled(2)), basis[:2], basis + (K.scaled(2),), list(basis),
            (basis[0], basis[1], basis[2] + ONE), (basis[0], basis[1], ONE), (basis[0].scaled(3), basis[1], basis[2]), (basis[0], basis[1], None),
            (basis[0], basis[1], basis[2].scaled(Ratio(1, 2))), (I.scaled(4), J.scaled(2), I + J + K), (ONE, I, J), (basis[0], basis[1], basis[0] - basis[0]),
            tuple(Four(other, four.entries, four.bottom) for four in basis), (basis[0], basis[1], HURWITZ), HURWITZ.basis()[1:], basis[0],
            (basis[0] + ONE.scaled(2), basis[1], basis[2]), ((basis[0],), basis[1], basis[2]),
        ]
        for given in tuple(wrong) + VALUES:
            self.assertIs(is_turning_basis(HURWITZ, given), False, given)
        self.assertIs(is_turning_basis(PLAIN, (I.scaled(2), J.scaled(2), K.scaled(2))), True)
        self.assertIs(is_turning_basis(PLAIN, basis), False)

    def test_no_orders(self):
        for given in NO_DEFINITE:
            self.error_of(InvalidOrder, turning_basis, given)
            self.error_of(InvalidOrder, is_turning_basis, given, None)
            self.error_of(InvalidOrder, three_form, given)
        self.assertIs(is_turning_basis(HURWITZ, None), False)

    def test_form_of(self):
        draw = random.Random(1108)
        for _ in range(150):
            algebra = draw.choice((HAMILTON, ELEVEN, Algebra(-3, -7), Algebra(-4, -12)))
            fours = tuple(Four(algebra, (0,) + tuple(draw.randint(-9, 9) for _ in range(3)), draw.choice((1, 1, 1, 2))) for _ in range(3))
            entries = [four.entries[1:] for four in fours]
            if determinant(entries) == 0:
                self.error_of(InvalidFour, form_of, fours)
                continue
            first, second, third = fours
            told = [four.norm for four in fours]
            told += [(second + third).norm - second.norm - third.norm, (first + third).norm - first.norm - third.norm, (first + second).norm - first.norm - second.norm]
            if any(part.bottom != 1 for part in told):
                self.error_of(InvalidOperation, form_of, fours)
            else:
                self.same(form_of(fours), tuple(part.top for part in told))
                for x, y, z in ((1, 2, 3), (-1, 0, 5)):
                    self.assertEqual(form_value(form_of(fours), x, y, z), (first.scaled(x) + second.scaled(y) + third.scaled(z)).norm.top)

    def test_no_triples(self):
        two = Algebra(-1, -2)
        wrong = (
            (I, J), (I, J, K, K), [I, J, K], (I, J, None), (I, J, ONE), (I, J, K + ONE), (I, J, I + J), (I, J, J), (I, J, K - K), (I, J, K.scaled(Ratio(1, 2)) + HALF),
            (I, J, two.basis()[3]), two.basis()[1:3] + (K,), TEN.basis()[1:], SPLIT.basis()[1:], (HURWITZ, I, J), ((I,), J, K), I, (I, I.scaled(2), J),
        )
        for given in wrong + VALUES:
            self.error_of(InvalidFour, form_of, given)
        for given in (
            (I.scaled(Ratio(1, 2)), J, K), (I.scaled(1001), J, K), (I, J, (I + K).scaled(Ratio(1, 3))), ((I + J).scaled(Ratio(1, 2)), J, K),
            (I.scaled(SIXTY), J, K), (I.scaled(1000), I.scaled(1000) + J, K), (I, J, made_four(HAMILTON, (0, 0, 0, LONG), 1)),
        ):
            self.error_of(InvalidOperation, form_of, given)
        self.assertEqual(form_of((I.scaled(1000), J.scaled(1000), K.scaled(1000))), (MOST, MOST, MOST, 0, 0, 0))
        self.assertEqual(form_of((I, J, K)), (1, 1, 1, 0, 0, 0))
        self.assertEqual(form_of((I, I + J, I + J + K)), (1, 2, 3, 4, 2, 2))

    def test_values_are_traces_and_norms(self):
        # [11.3]
        for order in (HURWITZ, GREAT, PLAIN, led(GREAT, Four(ELEVEN, (1, 2, 0, 3))), greatest_over(plain_order(placed((37,))))):
            told = {4 * many - (four.trace * four.trace).top for many in range(30) for four in fours_of(order, many)}
            counts = value_counts(three_form(order), 50)
            self.assertEqual([at for at in range(51) if counts[at]], sorted(at for at in told if at <= 50))
            # The turnings of a value are told by the fours with the trace 0 or 1.
            for most in (3, 4, 8, 11, 20):
                fours = [four for many in range(15) for four in fours_of(order, many) if four.trace == most % 2 and 4 * many - most % 2 == most]
                self.assertEqual(counts[most], len(fours))

    def test_kinds(self):
        # [11.5], and how a lead tells a four.
        for primes, order in orders(80):
            book = Book(order)
            kinds = book.kinds()
            bases = [turning_basis(book.order_at(at)) for at in range(len(book))]
            forms = [form_of(basis) for basis in bases]
            for at in range(len(book)):
                for to in range(at + 1):
                    told = any(at in kind and to in kind for kind in kinds)
                    table = form_lead(forms[at], forms[to])
                    self.assertIs(table is not None, told, (primes, at, to))
                    if told and (at == to or len(book) < 6):
                        self.check_turn(book, bases, at, to, table)
        draw = random.Random(1109)
        moved = led(GREAT, random_four(draw, ELEVEN, 9))
        self.assertIs(are_forms_alike(three_form(moved), three_form(GREAT)), True)
        self.assertEqual(counts_to(moved, 9), counts_to(GREAT, 9))

    def check_turn(self, book, bases, at, to, table):
        algebra = book.order.algebra
        images = [self.summed(bases[at], [row[column] for row in table]) for column in range(3)]
        columns = [self.parts(four) for four in images]
        inverse = self.inverse([self.parts(four) for four in bases[to]])
        # The map that takes the basis to its images, as a table over i, j and k.
        turn = [[sum(columns[part][row] * inverse[column][part] for part in range(3)) for column in range(3)] for row in range(3)]
        if determinant(turn) == -1:
            turn = [[-entry for entry in row] for row in turn]
        made = tuple(tuple(Ratio(entry.numerator, entry.denominator) for entry in row) for row in turn)
        self.assertIs(is_turn(algebra, made), True)
        self.assertEqual(led(book.order_at(to), four_of_turn(algebra, made)), book.order_at(at))

    def summed(self, fours, many):
        return fours[0].scaled(many[0]) + fours[1].scaled(many[1]) + fours[2].scaled(many[2])

    def parts(self, four):
        return [Fraction(entry, four.bottom) for entry in four.entries[1:]]

    def inverse(self, rows):
        """The inverse of a table of fractions, by its cofactors."""
        worth = determinant(rows)
        found = [[None] * 3 for _ in range(3)]
        for at in range(3):
            for to in range(3):
                a, b = [row for row in range(3) if row != to]
                c, d = [column for column in range(3) if column != at]
                sign = -1 if (at + to) % 2 else 1
                found[at][to] = sign * (rows[a][c] * rows[b][d] - rows[a][d] * rows[b][c]) / worth
        return found


if __name__ == "__main__":
    unittest.main()
