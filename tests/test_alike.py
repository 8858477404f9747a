"""Alike algebras, roots of numbers and joined places: stage 4."""

import random
import unittest
from itertools import product
from math import isqrt

from signfours.base.ratios import Ratio
from signfours.errors import InvalidAlgebra, TooMany
from signfours.four.fours import Algebra, Four, made_four
from signfours.four.leading import leading, turned
from signfours.place.signs import is_square_at
from signfours.split import alike
from signfours.split.alike import (
    are_alike, common_root, has_root, images, is_common_root, is_images, is_root_paper, joined, joined_places, root_paper,
)
from tests.support import Case, ELEVEN, HAMILTON, NO_ALGEBRAS, NO_INTEGERS, SIXTY, SPLIT, TEN, TOO_LONG, VALUES

GREAT_NUMBERS = (
    10 ** 4, -(10 ** 4), 9973, -9973, 9967, 2310, -2310, 9240, -9797, 8398, -8398, 30 * 101, -5005, 9999, -1, -2, 3, 7)
TOO_GREAT = (Algebra(10 ** 4 + 1, 1), Algebra(-1, -(10 ** 4) - 1), Algebra(10 ** 9, 10 ** 9))
UNIT, THIRD = Four(HAMILTON, (0, 1, 0, 0)), Four(HAMILTON, (0, 0, 1, 1))


def is_square(number):
    return number >= 0 and isqrt(number) ** 2 == number


def numbers_of(four):
    return [abs(part) for part in four.entries + (four.bottom,)]


def algebras(draw, many):
    """Drawn algebras, many of them alike."""
    found = []
    while len(found) < many:
        draw_one = draw.random()
        if draw_one < 0.5:
            a, b = draw.choice(GREAT_NUMBERS), draw.choice(GREAT_NUMBERS)
        else:
            a, b = (draw.choice((-1, 1)) * draw.randint(1, draw.choice((12, 10 ** 4))) for _ in range(2))
        found.append(Algebra(a, b))
    return found


class Alike(Case):

    def judge(self, one, other):
        told = one.places == other.places
        self.assertIs(are_alike(one, other), told)
        pair = images(one, other)
        if not told:
            self.assertIsNone(pair)
            return
        self.assertIs(type(pair), tuple)
        x, y = pair
        unit = other.basis()[0]
        self.assertEqual([x.algebra, y.algebra], [other, other])
        self.assertEqual(x * x, unit.scaled(one.a))
        self.assertEqual(y * y, unit.scaled(one.b))
        self.assertEqual(x * y, -(y * x))
        self.assertTrue(all(size <= SIXTY for size in numbers_of(x) + numbers_of(y)))
        self.assertIs(is_images(one, other, pair), True)
        self.assertIs(is_images(one, other, (x, -y)), True)
        self.assertIs(is_images(one, other, (x, y.scaled(2))), False)
        self.assertIs(is_images(one, other, (x + unit, y)), False)
        self.assertIs(is_images(one, other, (y, x)), one.a == one.b)
        self.assertIs(is_images(one, other, (x, x)), False)

    def test_small_numbers(self):
        numbers = [number for number in range(-6, 7) if number]
        for a, b, c, d in product(numbers, numbers, (-3, -1, 2, 5), (-5, -1, 1, 6)):
            self.judge(Algebra(a, b), Algebra(c, d))
            self.judge(Algebra(c, d), Algebra(a, b))

    def test_great_numbers(self):
        found = {}
        for algebra in algebras(random.Random(21), 900):
            found.setdefault(algebra.places, []).append(algebra)
        for group in found.values():
            for one, other in product(group[:4], group[:4]):
                self.judge(one, other)
        groups = list(found.values())
        for one, other in zip(groups, groups[1:]):
            self.judge(one[0], other[0])

    def test_the_map(self):
        # [4.1]: w + s i + t j + u k goes to w + s x + t y + u x y.
        one, other = Algebra(-2, -3), Algebra(-1, -1)
        x, y = images(one, other)
        unit = other.basis()[0]

        def taken(four):
            w, s, t, u = four.entries
            return (unit.scaled(w) + x.scaled(s) + y.scaled(t) + (x * y).scaled(u)).scaled(Ratio(1, four.bottom))

        draw = random.Random(22)
        for _ in range(30):
            first, second = (Four(one, tuple(draw.randint(-9, 9) for _ in range(4)), draw.randint(1, 5)) for _ in range(2))
            self.assertEqual(taken(first * second), taken(first) * taken(second))
            self.assertEqual(taken(first + second), taken(first) + taken(second))
            self.assertEqual(taken(first).norm, first.norm)

    def test_every_value(self):
        good = (UNIT, THIRD)
        other = Algebra(-1, -2)
        self.assertIs(is_images(other, HAMILTON, good), True)
        wrong = VALUES + (
            (UNIT,), (UNIT, THIRD, THIRD), [UNIT, THIRD], (THIRD, UNIT), (UNIT, UNIT), (UNIT, None), (None, THIRD), (UNIT, -1),
            (Four(Algebra(-1, -2), (0, 1, 0, 0)), Four(Algebra(-1, -2), (0, 0, 1, 0))), {0: UNIT, 1: THIRD},
            (UNIT, Four(HAMILTON, (0, 1, 1, 0))), (UNIT, Four(HAMILTON, (0, 0, 1, 0))), (True, THIRD),
        )
        for value in wrong:
            self.assertIs(is_images(other, HAMILTON, value), False)
        long = made_four(HAMILTON, (0, 0, 10 ** 70, 1), 10 ** 70)
        self.assertIs(is_images(other, HAMILTON, (UNIT, long)), False)

    def test_refused(self):
        self.assertEqual((alike.MAX_SIDE, alike.MAX_COMMON, alike.MAX_JOINED), (10 ** 4, 10 ** 9, 10 ** 8))
        for function, rest in (
            (are_alike, ()), (images, ()), (is_images, (None,)), (common_root, ()), (is_common_root, (-1,)),
            (joined_places, ()), (joined, ()),
        ):
            for value in NO_ALGEBRAS:
                self.error_of(InvalidAlgebra, function, value, TOO_GREAT[0], *rest)
                self.error_of(InvalidAlgebra, function, TOO_GREAT[0], value, *rest)
            for great in TOO_GREAT:
                self.assertEqual(self.error_of(TooMany, function, great, HAMILTON, *rest).most, 10 ** 4)
                self.assertEqual(self.error_of(TooMany, function, HAMILTON, great, *rest).most, 10 ** 4)
            function(Algebra(10 ** 4, -(10 ** 4)), Algebra(-(10 ** 4), 9973), *rest)


class Roots(Case):

    def judge(self, algebra, number):
        paper = root_paper(algebra, number)
        squares = [place for place in algebra.places if is_square_at(number, place)]
        self.assertIs(has_root(algebra, number), not squares)
        self.assertIs(is_root_paper(algebra, number, paper), True)
        self.assertIs(type(paper), tuple)
        self.assertEqual(len(paper), 2)
        if squares:
            self.assertEqual(paper[0], "place")
            self.assertIn(paper[1], squares)
            self.assertIs(type(paper[1]), int)
        else:
            self.assertEqual(paper[0], "root")
            root = paper[1]
            self.assertEqual(root.algebra, algebra)
            self.assertEqual(root * root, algebra.basis()[0].scaled(number))
            self.assertEqual(root.trace, 0)
            self.assertTrue(all(size <= SIXTY for size in numbers_of(root)))
            self.assertIs(is_root_paper(algebra, number, ("root", -root)), True)
            self.assertIs(is_root_paper(algebra, number, ("root", root.scaled(2))), False)
        for place in algebra.places + (0, 2, 3, 9973):
            self.assertIs(is_root_paper(algebra, number, ("place", place)), place in squares)

    def test_small_numbers(self):
        for algebra in (HAMILTON, ELEVEN, SPLIT, TEN, Algebra(-1, -3), Algebra(6, -35), Algebra(-15, -77), Algebra(4, 7)):
            for number in range(-40, 41):
                if not is_square(number):
                    self.judge(algebra, number)

    def test_great_numbers(self):
        draw = random.Random(23)
        for algebra in algebras(draw, 500):
            for number in (draw.choice(GREAT_NUMBERS), draw.choice((-1, 1)) * draw.randint(1, 10 ** 4)):
                if not is_square(number):
                    self.judge(algebra, number)

    def test_turned_roots(self):
        # [4.4]
        for algebra, number in ((HAMILTON, -3), (ELEVEN, -1), (SPLIT, 7), (TEN, -3)):
            root = root_paper(algebra, number)[1]
            for four in algebra.basis()[1:]:
                if (four + root).norm:
                    other = turned(four + root, root)
                    self.assertIs(is_root_paper(algebra, number, ("root", other)), True)
                    self.assertEqual(turned(leading(root, other), root), other)
            for four in algebra.basis():
                anti = root * four - four * root
                if anti:
                    square = anti * anti
                    self.assertEqual(root * anti, -(anti * root))
                    self.assertTrue(square.is_ratio)
                    worth = square.entries[0] * square.bottom
                    if worth:
                        self.assertEqual(Algebra(number, worth).places, algebra.places)

    def test_every_value(self):
        root = Four(HAMILTON, (0, 1, 1, 1))
        self.assertIs(is_root_paper(HAMILTON, -3, ("root", root)), True)
        self.assertIs(is_root_paper(HAMILTON, 2, ("place", 0)), True)
        self.assertIs(is_root_paper(HAMILTON, 17, ("place", 2)), True)
        self.assertIs(is_root_paper(HAMILTON, 17, ("place", 0)), True)
        wrong = VALUES + (
            ("root",), ("place",), ("root", root, root), ("root", None), ("root", 2), ("place", root), ("place", False),
            ("place", None), ("place", "0"), ("place", 10 ** 99), ("place", -1), ("place", 4), ("Place", 0), ["place", 0],
            (0, "place"), ("root", Four(ELEVEN, (0, 1, 1, 1))), ("place", (0,)), ("square", 0), (None, 0), {0: "place", 1: 0},
            ("root", UNIT), ("place", True), (("place",), 0), ("place", 2),
        )
        for value in wrong:
            self.assertIs(is_root_paper(HAMILTON, 2, value), value == ("place", 2) and is_square_at(2, 2), value)
        for value in (("root", UNIT), ("root", root.scaled(2)), ("place", 0), ("place", 2)):
            self.assertIs(is_root_paper(HAMILTON, -3, value), False)

    def test_refused(self):
        no_numbers = NO_INTEGERS + TOO_LONG + (0, 1, 4, 9, 9801, 10 ** 4, 10 ** 4 + 1, -(10 ** 4) - 1, 10 ** 9)
        for function, rest in ((root_paper, ()), (is_root_paper, (None,)), (has_root, ())):
            for value in NO_ALGEBRAS:
                self.error_of(InvalidAlgebra, function, value, 0, *rest)
            for value in no_numbers:
                self.no_number(value, function, HAMILTON, value, *rest)
                self.no_number(value, function, TOO_GREAT[0], value, *rest)
            for great in TOO_GREAT:
                self.assertEqual(self.error_of(TooMany, function, great, 2, *rest).most, 10 ** 4)
            for number in (-(10 ** 4), 9999, -1, 2, -4):
                function(Algebra(10 ** 4, -(10 ** 4)), number, *rest)


class CommonRoots(Case):

    def judge(self, one, other):
        number = common_root(one, other)
        self.assertIs(type(number), int)
        self.assertLessEqual(abs(number), 10 ** 9)
        self.assertFalse(is_square(number) or number == 0)
        for place in one.places + other.places:
            self.assertFalse(is_square_at(number, place))
        self.assertIs(is_common_root(one, other, number), True)

    def test_drawn_algebras(self):
        draw = random.Random(24)
        found = algebras(draw, 400)
        for _ in range(800):
            self.judge(draw.choice(found), draw.choice(found))
        for one, other in product((SPLIT, HAMILTON, ELEVEN, TEN, Algebra(1, 4)), repeat=2):
            self.judge(one, other)

    def test_many_places(self):
        draw = random.Random(25)
        # Numbers with as many primes as they can have.
        many = [2310, 2730, 3570, 3990, 4290, 4830, 6006, 7854, 8778, 9282, 7 * 11 * 13, 5 * 17 * 19, 23 * 29 * 3, 31 * 37]
        found = [Algebra(draw.choice((-1, 1)) * a, draw.choice((-1, 1)) * b) for a in many for b in many if a != b]
        found = sorted(found, key=lambda algebra: -len(algebra.places))[:40]
        for one, other in product(found, found[::3]):
            self.judge(one, other)

    def test_judged(self):
        for one, other in ((HAMILTON, ELEVEN), (SPLIT, TEN), (SPLIT, SPLIT), (HAMILTON, Algebra(-2, -5))):
            for number in range(-60, 61):
                told = number != 0 and not is_square(number) and not any(
                    is_square_at(number, place) for place in one.places + other.places)
                self.assertIs(is_common_root(one, other, number), told)
                if told and abs(number) <= 10 ** 4:
                    self.assertIs(has_root(one, number) and has_root(other, number), True)
        self.assertIs(is_common_root(SPLIT, SPLIT, 10 ** 9), True)
        self.assertIs(is_common_root(SPLIT, SPLIT, -(10 ** 9)), True)
        self.assertIs(is_common_root(SPLIT, SPLIT, 10 ** 9 + 1), False)
        self.assertIs(is_common_root(SPLIT, SPLIT, -(10 ** 9) - 1), False)
        self.assertIs(is_common_root(SPLIT, SPLIT, 31607 ** 2), False)
        for value in NO_INTEGERS + TOO_LONG + (0, 1, 4, (-1,), [-1], "-1", Ratio(-1)):
            self.assertIs(is_common_root(SPLIT, SPLIT, value), False)


class JoinedPlaces(Case):

    def test_joined(self):
        # [4.6]
        draw = random.Random(26)
        found = algebras(draw, 150)
        many = 0
        for _ in range(600):
            one, other = draw.choice(found), draw.choice(found)
            places = joined_places(one, other)
            self.assertEqual(places, tuple(sorted(set(one.places) ^ set(other.places))))
            self.assertEqual(len(places) % 2, 0)
            self.assertEqual(joined_places(one, one), ())
            free = 1
            for place in places:
                free *= place or 1
            if free > 10 ** 8:
                many += 1
                self.assertEqual(self.error_of(TooMany, joined, one, other).most, 10 ** 8)
            else:
                algebra = joined(one, other)
                self.assertEqual(algebra.places, places)
                self.assertEqual(joined(other, one).places, places)
        self.assertGreater(many, 10)

    def test_many_places(self):
        # The greatest products with eight primes, and with seven and 0.
        one, other = Algebra(-9973, 3 * 5 * 7 * 11), Algebra(1, 1)
        self.assertEqual(joined(one, other).places, one.places)
        for a, b in ((2310, 13 * 17 * 19), (-2310, -13 * 17 * 19), (9699690 // 1001, 1001), (9973, 9967), (-9973, -9967)):
            algebra = Algebra(a, b)
            if algebra.discriminant <= 10 ** 8:
                self.assertEqual(joined(algebra, SPLIT).places, algebra.places)
                self.assertEqual(joined(SPLIT, algebra).places, algebra.places)

    def test_rows_that_are_not_true(self):
        # [4.7]
        self.assertIs(are_alike(Algebra(-1, -1), Algebra(-2, -3)), True)
        self.assertIs(is_common_root(HAMILTON, ELEVEN, -1) and not are_alike(HAMILTON, ELEVEN), True)


if __name__ == "__main__":
    unittest.main()
