"""The interface of the document: each name is defined in the file under which it stands, with its parameters."""

import importlib
import inspect
import unittest

FUNCTIONS = {
    "signfours.base.numbers": ("is_prime(value)", "factors(number)", "square_free(number)", "residue_sign(number, prime)"),
    "signfours.place.signs": (
        "sign_at(a, b, place)", "signed_places(a, b)", "is_square_at(number, place)", "local_point(a, b, prime)",
        "is_local_point(a, b, prime, value)"),
    "signfours.four.leading": (
        "leading(one, other)", "is_leading(one, other, value)", "turned(one, other)", "turn_of(four)", "is_turn(algebra, value)",
        "four_of_turn(algebra, table)"),
    "signfours.split.points": (
        "point_on(a, b)", "is_point(a, b, value)", "small_point(a, b, c)", "is_small_point(a, b, c, value)"),
    "signfours.split.tables": (
        "zero_norm(algebra)", "table_pair(algebra)", "is_table_pair(algebra, value)", "table_of(four, pair)",
        "four_of_table(algebra, pair, table)", "algebra_at(places)"),
    "signfours.split.alike": (
        "are_alike(one, other)", "images(one, other)", "is_images(one, other, value)", "root_paper(algebra, number)",
        "is_root_paper(algebra, number, value)", "has_root(algebra, number)", "common_root(one, other)",
        "is_common_root(one, other, value)", "joined_places(one, other)", "joined(one, other)"),
    "signfours.order.orders": (
        "plain_order(algebra)", "is_order(value)", "outside(lattice)", "is_outside(lattice, value)", "order_discriminant(order)",
        "is_greatest(order)", "greater(order)", "greatest_over(order)"),
    "signfours.order.norms": (
        "fours_of(lattice, many)", "count_fours(lattice, many)", "counts_to(lattice, most)", "least_weight(lattice)", "units(order)"),
    "signfours.ideal.ideals": (
        "is_ideal(value)", "ideal_of(order, fours)", "inverse(ideal)", "neighbours(order, prime)", "ideals_of(order, norm)",
        "is_primitive_in(ideal, other)", "generator(ideal)", "is_generator(ideal, value)", "between(one, other)",
        "is_between(one, other, value)", "are_one_class(one, other)"),
    "signfours.ideal.classes": ("is_book(order, value)", "mass(order)", "classes_by_rule(primes)"),
    "signfours.ideal.tables": (
        "table_of_neighbours(book, n)", "primitive_table(book, n)", "ways_table(book, prime, many)", "is_joined(book, prime)",
        "is_balanced(book, table)", "table_product(one, other)", "table_trace(table)"),
    "signfours.form.twos": (
        "reduced_forms(number)", "class_number(number)", "unit_number(number)", "is_reduced(value)", "reduced(form)",
        "is_reducing(form, value)", "summand(primes, trace, many)", "trace_by_forms(primes, many)", "fours_with(order, trace, many)"),
    "signfours.form.threes": (
        "form_discriminant(form)", "is_form(value)", "form_value(form, x, y, z)", "value_counts(form, most)", "turning_basis(order)",
        "is_turning_basis(order, value)", "form_of(fours)", "three_form(order)", "are_forms_alike(one, other)", "form_lead(one, other)",
        "is_form_lead(one, other, value)"),
    "signfours.whole.hurwitz": (
        "whole_lattice()", "is_whole(value)", "is_primitive(value)", "divided(one, other, *, ahead=False)",
        "is_divided(one, other, value, *, ahead=False)", "common(one, other, *, ahead=False)", "is_common(one, other, value, *, ahead=False)",
        "factors_along(four, primes)", "is_factors(four, primes, value)", "exchange(one, other)", "is_exchange(one, other, value)"),
    "signfours.whole.points": ("points_of(prime)", "exchange_order(four, prime)"),
    "signfours.whole.squares": (
        "count_four_squares(number)", "count_whole(number)", "four_squares(number)", "three_squares(number)", "two_squares(number)",
        "is_three_squares(number, value)"),
    "signfours.whole.webs": ("chosen_fours(prime)", "point_of(four, modulus)"),
    "signfours.text.formats": (
        "write_algebra(algebra)", "write_four(four)", "write_lattice(lattice)", "read_algebra(text)", "read_four(text)", "read_lattice(text)"),
}
CLASSES = {
    ("signfours.base.ratios", "Ratio"): (
        "read over compared __add__ __sub__ __mul__ __neg__ __eq__ __bool__ __str__", "(top, bottom=1)"),
    ("signfours.four.fours", "Algebra"): ("basis __eq__ __str__", "(a, b)"),
    ("signfours.four.fours", "Four"): (
        "mate inverse power scaled __add__ __sub__ __mul__ __neg__ __eq__ __bool__ __str__", "(algebra, entries, bottom=1)"),
    ("signfours.order.lattices", "Lattice"): (
        "basis by ahead mates scaled index_in holds left_order right_order lattice_norm __add__ __and__ __mul__ __contains__ "
        "__eq__ __str__", "(algebra, fours)"),
    ("signfours.ideal.classes", "Book"): (
        "index order_at lead kinds __eq__ __len__ __contains__ __iter__ __str__", "(order)"),
    ("signfours.whole.webs", "Web"): (
        "neighbours_of ways straight_ways __contains__ __len__ __iter__ __eq__ __str__", "(prime, modulus)"),
    ("signfours.desk.desk", "Desk"): (
        "things past do say unsay is_true undo twin __contains__ __getitem__ __len__ __iter__ __eq__ __str__", "(algebra)"),
}
CONSTANTS = {
    "signfours.base.numbers": {"MAX_NUMBER": 10 ** 9}, "signfours.split.points": {"MAX_NUMBER": 1000000, "MAX_SMALL": 200},
    "signfours.split.tables": {"MAX_NUMBER": 1000000, "MAX_PLACE": 30},
    "signfours.split.alike": {"MAX_SIDE": 10 ** 4, "MAX_COMMON": 10 ** 9, "MAX_JOINED": 10 ** 8},
    "signfours.order.orders": {"MAX_DISCRIMINANT": 10 ** 6}, "signfours.order.norms": {"MAX_WEIGHT": 200},
    "signfours.ideal.ideals": {"MAX_STEP": 13, "MAX_NORM": 30}, "signfours.ideal.classes": {"MAX_CLASSES": 12},
    "signfours.ideal.tables": {"MAX_TABLE": 30, "MAX_STEPS": 20}, "signfours.form.twos": {"MAX_NUMBER": 2000},
    "signfours.form.threes": {"MAX_VALUE": 1000, "MAX_ENTRY": 1000000, "MAX_TURNED": 1000},
    "signfours.whole.hurwitz": {"MAX_FACTOR": 1000}, "signfours.whole.points": {"MAX_POINTS": 100},
    "signfours.whole.squares": {"MAX_SQUARED": 10 ** 8}, "signfours.whole.webs": {"MAX_CHOSEN": 61, "MAX_MODULUS": 13, "MAX_WAYS": 40},
    "signfours.desk.desk": {"MAX_NAME": 8, "MAX_SAID": 30},
}
# The parameters of methods.
METHODS = {
    ("signfours.desk.desk", "Desk"): ("do(self, *deeds)", "say(self, saying)", "unsay(self, saying)", "is_true(self, value)", "undo(self, steps=1)", "twin(self)"),
    ("signfours.whole.webs", "Web"): ("neighbours_of(self, point)", "ways(self, many)", "straight_ways(self, many)"),
}


class Interface(unittest.TestCase):

    def test_functions(self):
        for module, texts in FUNCTIONS.items():
            for text in texts:
                name = text.partition("(")[0]
                function = getattr(importlib.import_module(module), name)
                self.assertEqual(function.__module__, module)
                self.assertEqual(name + str(inspect.signature(function)), text)

    def test_classes(self):
        for (module, name), (methods, parameters) in CLASSES.items():
            kind = getattr(importlib.import_module(module), name)
            self.assertEqual(kind.__module__, module)
            self.assertEqual(str(inspect.signature(kind)), parameters)
            for method in methods.split():
                self.assertIn(method, vars(kind), (name, method))

    def test_methods(self):
        for (module, name), texts in METHODS.items():
            kind = getattr(importlib.import_module(module), name)
            for text in texts:
                method = text.partition("(")[0]
                self.assertEqual(method + str(inspect.signature(vars(kind)[method])), text)

    def test_constants(self):
        for module, told in CONSTANTS.items():
            for name, value in told.items():
                self.assertEqual(getattr(importlib.import_module(module), name), value)


if __name__ == "__main__":
    unittest.main()
