"""Forms in two unknowns, and traces: [10.1] to [10.8]."""

import random
import unittest
from fractions import Fraction
from itertools import combinations, product
from math import gcd, prod

from signfours.base.numbers import residue_sign
from signfours.base.ratios import Ratio
from signfours.errors import InvalidForm, InvalidNumber, InvalidOperation, InvalidOrder, Refused
from signfours.form.twos import (
    class_number, fours_with, is_reduced, is_reducing, reduced, reduced_forms, summand, trace_by_forms, unit_number,
)
from signfours.four.fours import Algebra, Four
from signfours.ideal.classes import Book
from signfours.ideal.tables import table_of_neighbours, table_trace
from signfours.order.norms import count_fours, fours_of
from signfours.order.orders import greatest_over, plain_order
from tests.support import (
    Case, ELEVEN, GREAT, HAMILTON, HURWITZ, I, J, LONG, NO_INTEGERS, NO_LATTICES, ONE, PLAIN, SIXTY, SPLIT, TEN, TOO_LONG, VALUES,
    led, primes_to, random_four,
)
from tests.test_classes import orders

NO_FORM_NUMBERS = NO_INTEGERS + TOO_LONG + (0, -1, -23, 2001, 10 ** 9)
NO_TRACES = NO_INTEGERS + TOO_LONG + (1001, -1001)
NO_MANY = NO_INTEGERS + TOO_LONG + (0, -1, 201)
NO_FORMS = tuple(value for value in NO_INTEGERS if value != (1, 2, 3)) + TOO_LONG + (
    0, 1, (1, 1), (1, 1, 6, 0), (0, 1, 6), (-1, 1, -6), (-1, 0, 1), (1, 2, 1), (1, 3, 2), (1, 0, 0), (2, 1, True), (True, 1, 6),
    (1, False, 1), [1, 1, 6], (Ratio(1), 1, 6), (1, 1, None), (1, 1, "6"), ((1, 1, 6),), HURWITZ,
)
TOO_LONG_FORMS = ((LONG, 1, 6), (1, 1, LONG), (LONG, -LONG, LONG))
PRIMES = [(prime,) for prime in primes_to(120)] + [some for some in combinations(primes_to(60), 3) if prod(some) <= 120]
NO_PRIME_TUPLES = VALUES[:40] + (
    (), (1,), (4,), (2, 3), (3, 2, 5), (2, 2, 2), (127,), (2, 3, 23), (2, 3, 5, 7, 11), (5, 3, 2), [2], (True,), (2, 3, True), (-2,),
    (2, 3, None), ("2",), ((2,),), (LONG,), (10 ** 9 + 7,), {2: 3},
)


def value(form, x, y):
    return form[0] * x * x + form[1] * x * y + form[2] * y * y


def forms_by_middle(number):
    """All primitive reduced forms with a number, by the integer in their middle."""
    found = []
    middle = -int(number ** 0.5) - 1
    while middle <= int(number ** 0.5) + 1:
        if (number + middle * middle) % 4 == 0:
            product_of = (number + middle * middle) // 4
            for a in range(max(1, abs(middle)), int(product_of ** 0.5) + 1):
                if product_of % a == 0:
                    c = product_of // a
                    kept = -a < middle <= a <= c and (a != c or middle >= 0)
                    if kept and gcd(gcd(a, middle), c) == 1:
                        found.append((a, middle, c))
        middle += 1
    return tuple(sorted(found))


FORMS = {number: forms_by_middle(number) for number in range(1, 2001)}


def mark(prime, number):
    conductor = [part for part in range(1, number + 1) if number % (part * part) == 0 and number // (part * part) % 4 in (0, 3)][-1]
    return 1 if conductor % prime == 0 else residue_sign(-number, prime)


MARKS = {}


def marked(prime, number):
    if (prime, number) not in MARKS:
        MARKS[prime, number] = mark(prime, number)
    return MARKS[prime, number]


def parts(left):
    """The numbers d / (f * f) of [10.5]."""
    return [left // (part * part) for part in range(1, int(left ** 0.5) + 1) if left % (part * part) == 0 and left // (part * part) % 4 in (0, 3)]


def told_summand(primes, trace, many):
    left = 4 * many - trace * trace
    if left < 0:
        return Fraction(0)
    if left == 0:
        return Fraction(prod(prime - 1 for prime in primes), 24)
    total = Fraction(0)
    for rest in parts(left):
        total += Fraction(len(FORMS[rest]), {3: 6, 4: 4}.get(rest, 2)) * prod(1 - marked(prime, rest) for prime in primes)
    return total


def drawn_table(draw, many=6, size=4):
    p, q, r, s = 1, 0, 0, 1
    for _ in range(many):
        turn = draw.randint(-size, size)
        p, q, r, s = q, -p, s, -r
        q, s = q + p * turn, s + r * turn
    return (p, q), (r, s)


def led_by(form, table):
    """The form to which a table leads a form, told by three values."""
    (p, q), (r, s) = table
    first, last = value(form, p, r), value(form, q, s)
    return first, value(form, p + q, r + s) - first - last, last


class Reduced(Case):

    def test_all_forms(self):
        for number in range(1, 2001):
            self.assertEqual(reduced_forms(number), FORMS[number])
            self.assertEqual(class_number(number), len(FORMS[number]))
            self.assertEqual(unit_number(number), {3: 6, 4: 4}.get(number, 2))
            if number % 4 in (1, 2):
                self.assertEqual(reduced_forms(number), ())
        self.assertEqual([class_number(number) for number in (163, 67, 1848, 1319, 2000)], [1, 1, 8, 45, 20])
        self.same(reduced_forms(23), ((1, 1, 6), (2, -1, 3), (2, 1, 3)))

    def test_tables_to_itself(self):
        tables = [((p, q), (r, s)) for p, q, r, s in product(range(-4, 5), repeat=4) if p * s - q * r == 1]
        for number in list(range(3, 40)) + [163, 164]:
            for form in FORMS[number]:
                # A table that keeps a reduced form takes its shortest vectors to such vectors.
                kept = [table for table in tables if led_by(form, table) == form]
                self.assertEqual(len(kept), unit_number(number), form)
                self.assertTrue(all(is_reducing(form, (form, table)) for table in kept))

    def test_numbers(self):
        for given in NO_FORM_NUMBERS:
            self.no_number(given, reduced_forms, given)
            self.no_number(given, class_number, given)
            self.no_number(given, unit_number, given)

    def test_is_reduced(self):
        listed = {form for forms in FORMS.values() for form in forms}
        for form in product(range(-1, 8), range(-8, 9), range(-1, 8)):
            a, b, c = form
            told = a > 0 and 4 * a * c > b * b and -a < b <= a <= c and (b >= 0 or a != c)
            self.assertIs(is_reduced(form), told)
            if told and gcd(gcd(a, b), c) == 1:
                self.assertIn(form, listed)
        for given in VALUES + NO_FORMS + ((2, 1, 1), (3, -3, 5), (2, -1, 2), [2, 1, 3], (2, 1, 3, 0), (2, True, 3), (True, True, 6)):
            self.assertIs(is_reduced(given), repr(given) == "(1, 1, 6)", given)
        for given in ((2, 2, 2), (10 ** 99, 10 ** 99, 10 ** 99), (2, -1, LONG), (4, 2, 6)):
            self.assertIs(is_reduced(given), True)
        self.assertIs(is_reduced((10 ** 99, -10 ** 99, 10 ** 99)), False)

    def test_great_forms(self):
        draw = random.Random(1001)
        made = 0
        while made < 400:
            size = draw.choice((9, 10 ** 9, SIXTY))
            form = (draw.randint(1, size), draw.randint(-size, size), draw.randint(1, size))
            if draw.random() < 0.3:
                form = led_by((draw.randint(1, 9), draw.randint(-2, 2), draw.randint(2, 9)), drawn_table(draw, 20, 9))
            if 4 * form[0] * form[2] <= form[1] ** 2 or max(map(abs, form)) > SIXTY:
                continue
            made += 1
            told = reduced(form)
            other, table = told
            self.assertEqual(led_by(form, table), other)
            (p, q), (r, s) = table
            self.assertEqual(p * s - q * r, 1)
            a, b, c = other
            self.assertTrue(-a < b <= a <= c and (b >= 0 or a != c))
            self.assertEqual(4 * a * c - b * b, 4 * form[0] * form[2] - form[1] ** 2)
            self.assertLess(max(map(abs, other + table[0] + table[1])), LONG)
            self.assertIs(is_reducing(form, told), True)
            self.same(told, reduced(form))
            # Each form of the class is led to the same reduced form.
            moved = led_by(form, drawn_table(draw, 3))
            if max(map(abs, moved)) <= SIXTY:
                self.assertEqual(reduced(moved)[0], other)
        self.assertEqual(reduced((SIXTY, 0, SIXTY))[0], (SIXTY, 0, SIXTY))
        self.assertEqual(reduced((SIXTY, SIXTY, SIXTY))[0], (SIXTY, SIXTY, SIXTY))
        self.assertEqual(reduced((SIXTY, -SIXTY, SIXTY))[0], (SIXTY, SIXTY, SIXTY))

    def test_pairs(self):
        form, other = (3, 5, 4), (2, 1, 3)
        for told in (((-1, -1), (1, 0)), ((1, 1), (-1, 0))):
            self.assertIs(is_reducing(form, (other, told)), True)
        wrong = [
            (other, ((1, 0), (0, 1))), (form, ((1, 0), (0, 1))), (other, ((-1, 1), (1, 0))), (other, ((-1, 1), (-1, 0))),
            (other, [[-1, -1], [1, 0]]), (other, ((-1, -1), (1, 0), (0, 0))), (other, ((-1, -1, 0), (1, 0))), (other,), other,
            (other, ((-1, -1), (1, 0)), 1), [other, ((-1, -1), (1, 0))], (other, ((-1, -1), (True, 0))), (other, ((-1, -1), (1, False))),
            (other, None), (None, ((-1, -1), (1, 0))), ((2, 1, 3, 0), ((-1, -1), (1, 0))), ((2, -1, 3), ((-1, -1), (1, 0))),
            ((2, True, 3), ((-1, -1), (1, 0))), ([2, 1, 3], ((-1, -1), (1, 0))), (other, ((-1, LONG), (1, 0))), (other, (-1, -1, 1, 0)),
        ]
        for given in tuple(wrong) + VALUES + NO_FORMS:
            self.assertIs(is_reducing(form, given), False, given)
        # A pair with a form that is not reduced, though the table leads there.
        self.assertIs(is_reducing((2, 1, 3), ((2, 5, 6), ((1, 1), (0, 1)))), False)
        self.assertEqual(led_by((2, 1, 3), ((1, 1), (0, 1))), (2, 5, 6))
        for entries in product(range(-2, 3), repeat=4):
            table = (entries[:2], entries[2:])
            right = entries[0] * entries[3] - entries[1] * entries[2] == 1 and led_by(form, table) == other
            self.assertIs(is_reducing(form, (other, table)), right)

    def test_no_forms(self):
        for given in NO_FORMS + TOO_LONG_FORMS:
            self.error_of(InvalidForm, reduced, given)
            self.error_of(InvalidForm, is_reducing, given, None)
            self.error_of(InvalidForm, is_reducing, given, (given, ((1, 0), (0, 1))))
        self.assertIs(is_reduced((1, 1, LONG)), True)

    def test_what_is_not_true(self):
        # [10.8]
        self.assertEqual(reduced((2, -1, 3))[0], (2, -1, 3))
        self.assertEqual(reduced((2, 1, 3))[0], (2, 1, 3))
        self.assertEqual(reduced((1, 1, 6))[0], (1, 1, 6))
        self.assertEqual(class_number(12), 1)
        both = [form for form in product(range(1, 5), range(-4, 5), range(1, 5)) if is_reduced(form) and 4 * form[0] * form[2] - form[1] ** 2 == 12]
        self.assertEqual(both, [(1, 0, 3), (2, 2, 2)])
        for number in range(3, 12):
            if class_number(number) == 1:
                all_forms = [form for form in product(range(1, 4), range(-3, 4), range(1, 13)) if is_reduced(form) and 4 * form[0] * form[2] - form[1] ** 2 == number]
                self.assertEqual(len(all_forms), 1)


class Summands(Case):

    def test_summands(self):
        for primes in PRIMES:
            for many in list(range(1, 14)) + [25, 49, 98, 100, 144, 195, 200]:
                most = int((4 * many) ** 0.5)
                total = Fraction(0)
                for trace in range(-most - 1, most + 2):
                    told = told_summand(primes, trace, many)
                    total += told
                    if trace >= 0 and (many < 9 or trace > most - 6):
                        found = summand(primes, trace, many)
                        self.assertIs(type(found), Ratio)
                        self.assertEqual((found.top, found.bottom), (told.numerator, told.denominator))
                        self.assertEqual(summand(primes, -trace, many), found)
                self.same(trace_by_forms(primes, many), total.numerator)
                self.assertEqual(total.denominator, 1)

    def test_sums_are_integers(self):
        for primes in PRIMES:
            for many in list(range(14, 200, 11)):
                most = int((4 * many) ** 0.5)
                total = sum(told_summand(primes, trace, many) for trace in range(-most - 1, most + 2))
                self.assertEqual(trace_by_forms(primes, many), total)

    def test_far_traces(self):
        for trace in (5, -5, 29, 1000, -1000):
            self.assertEqual(summand((11,), trace, 6 if abs(trace) == 5 else 200), 0)
        self.assertEqual(str(summand((11,), 28, 196)), "5/12")
        self.assertEqual(str(summand((2, 3, 5), -2, 1)), "1/3")
        self.assertEqual(summand((11,), 29, 200).sign, 0)

    def test_zeros(self):
        # [10.7]
        for primes in PRIMES:
            for many in list(range(1, 30, 3)) + [121, 200]:
                for trace in range(int((4 * many) ** 0.5) + 1):
                    left = 4 * many - trace * trace
                    if left > 0:
                        rests = parts(left)
                        zero = any(all(marked(prime, rest) == 1 for rest in rests) for prime in primes)
                        self.assertIs(not told_summand(primes, trace, many), zero)
                        if len(rests) == 1:
                            self.assertIs(zero, any(residue_sign(-left, prime) == 1 for prime in primes))
                        if many < 9:
                            self.assertIs(not summand(primes, trace, many), zero)

    def test_errors(self):
        for given in NO_PRIME_TUPLES:
            self.error_of(InvalidOperation, summand, given, 1, 3)
            self.error_of(InvalidOperation, trace_by_forms, given, 3)
            self.error_of(InvalidOperation, summand, given, None, None)
            self.error_of(InvalidOperation, trace_by_forms, given, 0)
        for given in NO_TRACES:
            self.no_number(given, summand, (11,), given, 3)
            self.no_number(given, summand, (11,), given, 0)
        for given in NO_MANY:
            self.no_number(given, summand, (11,), 1, given)
            self.no_number(given, trace_by_forms, (11,), given)
        for primes in PRIMES:
            self.assertIsInstance(summand(primes, 1000, 200), Ratio)


class Fours(Case):

    def orders(self):
        draw = random.Random(1002)
        yield from (HURWITZ, PLAIN, GREAT, plain_order(ELEVEN), led(GREAT, Four(ELEVEN, (1, 2, 0, 3))))
        yield led(HURWITZ, random_four(draw, HAMILTON, SIXTY, SIXTY))
        yield HURWITZ & led(HURWITZ, ONE + I + J)
        yield plain_order(Algebra(-3, -7))
        yield greatest_over(plain_order(Algebra(-30, -77)))

    def test_against_all_fours(self):
        for order in self.orders():
            for many in (1, 2, 4, 9, 30):
                traces = [four.trace for four in fours_of(order, many)]
                total = 0
                for trace in range(int((4 * many) ** 0.5) + 2):
                    found = fours_with(order, trace, many)
                    self.same(found, traces.count(trace))
                    if many < 9:
                        self.assertEqual(found, fours_with(order, -trace, many))
                    total += found if trace == 0 else 2 * found
                self.assertEqual(total, count_fours(order, many))
        self.assertEqual(sum(fours_with(HURWITZ, trace, 200) for trace in range(-30, 31, 10)), sum(
            [four.trace.top % 10 == 0 for four in fours_of(HURWITZ, 200)]))

    def test_a_search(self):
        # All whole fours of a norm, with twice their entries.
        for many in (1, 2, 3, 5, 6):
            most = int((4 * many) ** 0.5)
            every = [
                parts_of for parts_of in product(range(-most, most + 1), repeat=4)
                if sum(part * part for part in parts_of) == 4 * many and len({part % 2 for part in parts_of}) == 1
            ]
            for trace in range(-most - 1, most + 2):
                self.assertEqual(fours_with(HURWITZ, trace, many), len([1 for parts_of in every if parts_of[0] == trace]))
                plain = [1 for parts_of in every if parts_of[0] == trace and parts_of[0] % 2 == 0]
                self.assertEqual(fours_with(PLAIN, trace, many), len(plain))

    def test_far_traces(self):
        self.assertEqual([fours_with(GREAT, trace, 200) for trace in (29, -29, 1000, -1000)], [0, 0, 0, 0])
        self.assertEqual([fours_with(GREAT, trace, 1) for trace in (2, -2, 3)], [1, 1, 0])

    def test_traces_of_books(self):
        # [10.6]: by the fours of the right orders, and by the tables of neighbours.
        for primes, order in orders(120):
            book = Book(order)
            for many in ((1, 2, 3, 4, 5, 9, 30) if len(book) < 4 else (2, 7)):
                self.assertEqual(table_trace(table_of_neighbours(book, many)), trace_by_forms(primes, many), primes)
            for many, traces in ((1, (0, 1, 2)), (3, (0, 1, 2, 3)), (4, (0, 3, 4)), (9, (0, 6))):
                for trace in traces if len(book) < 4 else traces[-1:]:
                    counted = [fours_with(book.order_at(at), trace, many) for at in range(len(book))]
                    total = sum(Fraction(count, weight) for count, weight in zip(counted, book.weights))
                    told = summand(primes, trace, many)
                    self.assertEqual((told.top, told.bottom), (total.numerator, total.denominator), (primes, trace, many))

    def test_errors(self):
        for given in NO_LATTICES + (HURWITZ.scaled(2), HURWITZ.by(ONE + I + J)):
            self.error_of(InvalidOrder, fours_with, given, 1, 3)
            self.error_of(InvalidOrder, fours_with, given, None, 0)
        indefinite = plain_order(TEN)
        for given in NO_TRACES:
            self.no_number(given, fours_with, HURWITZ, given, 3)
            self.no_number(given, fours_with, indefinite, given, 0)
        for given in NO_MANY:
            self.no_number(given, fours_with, HURWITZ, 1, given)
            self.no_number(given, fours_with, indefinite, 1, given)
        for order in (indefinite, plain_order(SPLIT), greatest_over(indefinite)):
            self.refused(("definite",), fours_with, order, 1, 3)
        self.assertTrue(issubclass(InvalidNumber, IndexError) and issubclass(Refused, ArithmeticError))


if __name__ == "__main__":
    unittest.main()
