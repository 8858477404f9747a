"""The interface of the document: each name is defined in the file under which it stands, with its parameters."""

import importlib
import inspect
import unittest

FUNCTIONS = {
    "signfours.base.numbers": ("is_prime(value)", "factors(number)", "square_free(number)", "residue_sign(number, prime)"),
    "signfours.place.signs": (
        "sign_at(a, b, place)", "signed_places(a, b)", "is_square_at(number, place)", "local_point(a, b, prime)",
        "is_local_point(a, b, prime, value)"),
    "signfours.four.leading": (
        "leading(one, other)", "is_leading(one, other, value)", "turned(one, other)", "turn_of(four)", "is_turn(algebra, value)",
        "four_of_turn(algebra, table)"),
    "signfours.split.points": (
        "point_on(a, b)", "is_point(a, b, value)", "small_point(a, b, c)", "is_small_point(a, b, c, value)"),
    "signfours.split.tables": (
        "zero_norm(algebra)", "table_pair(algebra)", "is_table_pair(algebra, value)", "table_of(four, pair)",
        "four_of_table(algebra, pair, table)", "algebra_at(places)"),
    "signfours.split.alike": (
        "are_alike(one, other)", "images(one, other)", "is_images(one, other, value)", "root_paper(algebra, number)",
        "is_root_paper(algebra, number, value)", "has_root(algebra, number)", "common_root(one, other)",
        "is_common_root(one, other, value)", "joined_places(one, other)", "joined(one, other)"),
    "signfours.order.orders": (
        "plain_order(algebra)", "is_order(value)", "outside(lattice)", "is_outside(lattice, value)", "order_discriminant(order)",
        "is_greatest(order)", "greater(order)", "greatest_over(order)"),
    "signfours.order.norms": (
        "fours_of(lattice, many)", "count_fours(lattice, many)", "counts_to(lattice, most)", "least_weight(lattice)", "units(order)"),
    "signfours.ideal.ideals": (
        "is_ideal(value)", "ideal_of(order, fours)", "inverse(ideal)", "neighbours(order, prime)", "ideals_of(order, norm)",
        "is_primitive_in(ideal, other)", "generator(ideal)", "is_generator(ideal, value)", "between(one, other)",
        "is_between(one, other, value)", "are_one_class(one, other)"),
    "signfours.ideal.classes": ("is_book(order, value)", "mass(order)", "classes_by_rule(primes)"),
    "signfours.ideal.tables": (
        "table_of_neighbours(book, n)", "primitive_table(book, n)", "ways_table(book, prime, many)", "is_joined(book, prime)",
        "is_balanced(book, table)", "table_product(one, other)", "table_trace(table)"),
}
CLASSES = {
    ("signfours.base.ratios", "Ratio"): (
        "read over compared __add__ __sub__ __mul__ __neg__ __eq__ __bool__ __str__", "(top, bottom=1)"),
    ("signfours.four.fours", "Algebra"): ("basis __eq__ __str__", "(a, b)"),
    ("signfours.four.fours", "Four"): (
        "mate inverse power scaled __add__ __sub__ __mul__ __neg__ __eq__ __bool__ __str__", "(algebra, entries, bottom=1)"),
    ("signfours.order.lattices", "Lattice"): (
        "basis by ahead mates scaled index_in holds left_order right_order lattice_norm __add__ __and__ __mul__ __contains__ "
        "__eq__ __str__", "(algebra, fours)"),
    ("signfours.ideal.classes", "Book"): (
        "index order_at lead kinds __eq__ __len__ __contains__ __iter__ __str__", "(order)"),
}
CONSTANTS = {
    "signfours.base.numbers": {"MAX_NUMBER": 10 ** 9}, "signfours.split.points": {"MAX_NUMBER": 1000000, "MAX_SMALL": 200},
    "signfours.split.tables": {"MAX_NUMBER": 1000000, "MAX_PLACE": 30},
    "signfours.split.alike": {"MAX_SIDE": 10 ** 4, "MAX_COMMON": 10 ** 9, "MAX_JOINED": 10 ** 8},
    "signfours.order.orders": {"MAX_DISCRIMINANT": 10 ** 6}, "signfours.order.norms": {"MAX_WEIGHT": 200},
    "signfours.ideal.ideals": {"MAX_STEP": 13, "MAX_NORM": 30}, "signfours.ideal.classes": {"MAX_CLASSES": 12},
    "signfours.ideal.tables": {"MAX_TABLE": 30, "MAX_STEPS": 20},
}


class Interface(unittest.TestCase):

    def test_functions(self):
        for module, texts in FUNCTIONS.items():
            for text in texts:
                name = text.partition("(")[0]
                function = getattr(importlib.import_module(module), name)
                self.assertEqual(function.__module__, module)
                self.assertEqual(name + str(inspect.signature(function)), text)

    def test_classes(self):
        for (module, name), (methods, parameters) in CLASSES.items():
            kind = getattr(importlib.import_module(module), name)
            self.assertEqual(kind.__module__, module)
            self.assertEqual(str(inspect.signature(kind)), parameters)
            for method in methods.split():
                self.assertIn(method, vars(kind), (name, method))

    def test_constants(self):
        for module, told in CONSTANTS.items():
            for name, value in told.items():
                self.assertEqual(getattr(importlib.import_module(module), name), value)


if __name__ == "__main__":
    unittest.main()
