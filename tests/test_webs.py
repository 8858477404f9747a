"""Webs of whole fours: [13.1] to [13.5]."""

import random
import unittest
from collections import Counter
from itertools import product

from signfours.base.ratios import Ratio
from signfours.errors import InvalidFour, InvalidOperation
from signfours.four.fours import Algebra, Four, made_four
from signfours.whole.webs import Web, chosen_fours, point_of
from tests.support import Case, ELEVEN, HALF, HAMILTON, I, J, K, LONG, NO_PRIMES, ONE, SIXTY, VALUES

CHOSEN = (5, 13, 17, 29, 37, 41, 53, 61)
MODULI = (3, 5, 7, 11, 13)
PAIRS = [(prime, modulus) for prime in CHOSEN for modulus in MODULI if prime != modulus]
SMALL = [(prime, modulus) for prime, modulus in PAIRS if modulus < 11 or prime < 18]
NO_CHOSEN = NO_PRIMES + (2, 3, 7, 11, 59, 73, 89, 999999937)
NO_MODULI = NO_PRIMES + (2, 17, 19, 999999937)
NO_WAYS = tuple(value for value in VALUES if type(value) is not int) + (-1, 41, LONG)
IDLE = (1, 0, 0, 0)


def times(one, other):
    a, b, c, d = one
    e, f, g, h = other
    return (
        a * e - b * f - c * g - d * h, a * f + b * e + c * h - d * g, a * g - b * h + c * e + d * f, a * h + b * g - c * f + d * e,
    )


def told_point(entries, modulus):
    rests = [entry % modulus for entry in entries]
    first = next(rest for rest in rests if rest)
    turn = next(many for many in range(1, modulus) if many * first % modulus == 1)
    return tuple(rest * turn % modulus for rest in rests)


def is_square(number, modulus):
    return any((root * root - number) % modulus == 0 for root in range(modulus))


def listed_chosen(prime):
    size = int(prime ** 0.5)
    found = [parts for parts in product(range(-size, size + 1), repeat=4) if sum(part * part for part in parts) == prime]
    return sorted(parts for parts in found if parts[0] > 0 and parts[0] % 2 == 1 and not any(part % 2 for part in parts[1:]))


def walk(prime, modulus):
    """The points that are reached, each with the sides on which it can stand, and the steps."""
    steps = [told_point(parts, modulus) for parts in listed_chosen(prime)]
    reached, queue = {IDLE: {0}}, [(IDLE, 0)]
    for point, side in queue:
        for step in steps:
            there = told_point(times(point, step), modulus)
            if 1 - side not in reached.setdefault(there, set()):
                reached[there].add(1 - side)
                queue.append((there, 1 - side))
    return reached, steps


class Chosen(Case):

    def test_chosen_fours(self):
        for prime in CHOSEN:
            fours = chosen_fours(prime)
            self.assertIs(type(fours), tuple)
            self.assertEqual([four.entries for four in fours], listed_chosen(prime))
            self.assertEqual(len(fours), prime + 1)
            for four in fours:
                self.assertEqual((four.algebra, four.bottom, four.norm), (HAMILTON, 1, prime))
                self.assertIn(four.mate(), fours)
        for given in NO_CHOSEN:
            self.no_number(given, chosen_fours, given)


class Points(Case):

    def test_points(self):
        draw = random.Random(1401)
        for _ in range(400):
            modulus = draw.choice(MODULI)
            size = draw.choice((3, 20, SIXTY))
            entries = tuple(draw.randint(-size, size) for _ in range(4))
            four = Four(HAMILTON, entries)
            if sum(entry * entry for entry in entries) % modulus == 0:
                self.error_of(InvalidOperation, point_of, four, modulus)
            else:
                self.same(point_of(four, modulus), told_point(entries, modulus))
        self.assertEqual(point_of(Four(HAMILTON, (2, 1, 0, 0)), 3), (1, 2, 0, 0))
        self.assertEqual(point_of(-ONE, 13), IDLE)
        self.assertEqual(point_of(Four(HAMILTON, (3, 0, 4, 1)), 3), (0, 0, 1, 1))
        self.assertEqual(point_of(made_four(HAMILTON, (LONG, 1, 0, 3), 1), 3), (1, 1, 0, 0))

    def test_errors(self):
        other = Algebra(-1, -2)
        for given in [value for value in VALUES if not isinstance(value, Four)] + [Four(ELEVEN, IDLE), Four(other, IDLE), Four(Algebra(1, -1), IDLE)]:
            self.error_of(InvalidFour, point_of, given, 3)
            self.error_of(InvalidFour, point_of, given, 2)
        for given in NO_MODULI:
            self.no_number(given, point_of, I, given)
            self.no_number(given, point_of, HALF, given)
        for four in (HALF, HALF.scaled(3), ONE.scaled(Ratio(1, 2)), ONE.scaled(Ratio(1, 3)), ONE - ONE, ONE + I + J, I.scaled(3)):
            self.error_of(InvalidOperation, point_of, four, 3)
        for four in (I + J + K, ONE.scaled(13), ONE.scaled(2) + I.scaled(3)):
            self.assertIs(type(point_of(four, 5)), tuple)
            if four.norm.top % 13 == 0:
                self.error_of(InvalidOperation, point_of, four, 13)


class Webs(Case):

    def test_points_and_sides(self):
        for prime, modulus in PAIRS:
            web = Web(prime, modulus)
            every = modulus * (modulus * modulus - 1)
            square = is_square(prime, modulus)
            self.assertEqual(len(web.points), every // 2 if square else every)
            if (prime, modulus) in SMALL:
                reached, _ = walk(prime, modulus)
                self.same(web.points, tuple(sorted(reached)))
                if square:
                    self.assertTrue(all(sides == {0, 1} for sides in reached.values()))
                    self.assertIsNone(web.sides)
                else:
                    sides = tuple(tuple(sorted(point for point in reached if reached[point] == {side})) for side in (0, 1))
                    self.same(web.sides, sides)
                    self.assertEqual(len(sides[0]), len(sides[1]))
                    self.assertEqual(len(sides[0]) + len(sides[1]), every)
            self.same((web.prime, web.modulus), (prime, modulus))

    def test_all_great_webs(self):
        # What comes from IDLE by few steps is all that is told, also where a walk by hand takes long.
        for prime, modulus in PAIRS:
            if (prime, modulus) not in SMALL:
                web = Web(prime, modulus)
                reached, queue = {IDLE}, [IDLE]
                for point in queue:
                    if len(reached) == len(web.points):
                        break
                    for there in web.neighbours_of(point):
                        if there not in reached:
                            reached.add(there)
                            queue.append(there)
                self.assertEqual(tuple(sorted(reached)), web.points)

    def test_neighbours(self):
        draw = random.Random(1402)
        for prime, modulus in PAIRS:
            web = Web(prime, modulus)
            steps = [told_point(parts, modulus) for parts in listed_chosen(prime)]
            for point in draw.sample(web.points, min(5, len(web.points))) + [IDLE]:
                found = web.neighbours_of(point)
                self.same(found, tuple(told_point(times(point, step), modulus) for step in steps))
                self.assertEqual(len(found), prime + 1)
                for there in set(found):
                    self.assertEqual(found.count(there), web.neighbours_of(there).count(point))
                if web.sides is not None:
                    side = 0 if point in web.sides[0] else 1
                    self.assertTrue(all(there in web.sides[1 - side] for there in found))
                else:
                    self.assertTrue(all(there in web.points for there in found))

    def test_no_points(self):
        for web in (Web(5, 3), Web(13, 3), Web(5, 7), Web(29, 5)):
            wrong = [
                (True, 0, 0, 0), (1, False, 0, 0), (1, 0, 0, True), (0, 0, 0, 0), (2, 0, 0, 0), (1, web.modulus, 0, 0), (1, -1, 0, 0), (1, 0, 0), (1, 0, 0, 0, 0),
                [1, 0, 0, 0], (1, 0, 0, None), (1, 0, 0, "0"), (Ratio(1), 0, 0, 0), (1, LONG, 0, 0), (0, 2, 0, 0), (1, 0, 0, (0,)), "1000", ONE, web, None,
            ]
            every = {told_point(parts, web.modulus) for parts in product(range(web.modulus), repeat=4) if sum(part * part for part in parts) % web.modulus}
            wrong += [point for point in product(range(min(4, web.modulus)), repeat=4) if point not in web.points]
            for given in wrong + list(VALUES):
                self.error_of(InvalidOperation, web.neighbours_of, given)
                self.assertIs(given in web, False, given)
            for point in every:
                self.assertIs(point in web, point in web.points)
                if point not in web.points:
                    self.error_of(InvalidOperation, web.neighbours_of, point)
        self.assertIs((1, 1, 0, 0) in Web(13, 3), False)
        self.assertIs((1, 1, 0, 0) in Web(5, 3), True)

    def test_operators(self):
        web = Web(5, 7)
        self.assertEqual(len(web), 336)
        self.same(tuple(web), web.points)
        self.assertEqual([str(Web(5, 3)), str(Web(61, 13))], ["web of 5 modulo 3", "web of 61 modulo 13"])
        self.assertTrue(web == Web(5, 7) and not web != Web(5, 7))
        for other in (Web(5, 3), Web(13, 7), Web(29, 7), None, 5, "web of 5 modulo 7", (5, 7)) + VALUES:
            self.assertIs(web == other, False)
            self.assertIs(web != other, True)
        self.assertIs(Web(5, 3) == Web(5, 3), True)
        self.assertEqual([point in web for point in web], [True] * 336)

    def test_errors(self):
        for given in NO_CHOSEN:
            self.no_number(given, Web, given, 3)
            self.no_number(given, Web, given, 2)
        for given in NO_MODULI + (5,):
            self.no_number(given, Web, 5, given)
        self.no_number(13, Web, 13, 13)
        for given in NO_WAYS:
            self.no_number(given, Web(5, 3).ways, given)
            self.no_number(given, Web(5, 3).straight_ways, given)


class Ways(Case):

    def walked(self, web, steps, mates, start, most):
        """The numbers of all ways and of straight ways back to a point, by the last steps of all ways."""
        found = [(1, 1)]
        every, straight = Counter({start: 1}), None
        for many in range(1, most + 1):
            ahead, every = every, Counter()
            for point, often in ahead.items():
                for there in web.neighbours_of(point):
                    every[there] += often
            before, straight = straight, Counter()
            for at, step in enumerate(steps):
                if before is None:
                    straight[web.neighbours_of(start)[at], at] += 1
                else:
                    for (point, last), often in before.items():
                        if mates[last] != at:
                            straight[told_point(times(point, step), web.modulus), at] += often
            found.append((every[start], sum(often for (point, _), often in straight.items() if point == start)))
        return found

    def test_few_steps(self):
        draw = random.Random(1403)
        for prime, modulus, most in ((5, 3, 6), (13, 3, 4), (17, 3, 4), (61, 3, 3), (13, 5, 3), (29, 5, 3), (5, 7, 5), (5, 11, 4), (5, 13, 4), (13, 7, 3)):
            web = Web(prime, modulus)
            listed = listed_chosen(prime)
            mates = [listed.index((w, -x, -y, -z)) for w, x, y, z in listed]
            steps = [told_point(parts, modulus) for parts in listed]
            for start in [IDLE, draw.choice(web.points)]:
                for many, told in enumerate(self.walked(web, steps, mates, start, most)):
                    self.same((web.ways(many), web.straight_ways(many)), told)

    def test_zero_steps(self):
        for prime, modulus in SMALL[::2] + [(61, 13)]:
            web = Web(prime, modulus)
            self.same((web.ways(0), web.straight_ways(0)), (1, 1))
            self.assertEqual(web.ways(1), web.straight_ways(1))
            self.assertEqual(web.straight_ways(2), web.ways(2) - (prime + 1))
            if web.sides is not None:
                self.assertEqual([web.ways(many) for many in (1, 3, 17, 39)], [0] * 4)
                self.assertEqual([web.straight_ways(many) for many in (1, 3, 17, 39)], [0] * 4)

    def quadruples(self, prime, modulus, many):
        """Half of the number of the quadruples of [13.5], by the squares of the first entries."""
        worth, unit = prime ** many, 4 * modulus * modulus
        total = 0
        for w in range(1, int(worth ** 0.5) + 2, 2):
            left = worth - w * w
            if left >= 0 and left % unit == 0:
                for x, y, z in self.triples(left // unit):
                    if any(part % prime for part in (w, 2 * modulus * x, 2 * modulus * y, 2 * modulus * z)):
                        total += 1
        return total

    def triples(self, number):
        size = int(number ** 0.5) + 1
        for x in range(-size, size + 1):
            for y in range(-size, size + 1):
                left = number - x * x - y * y
                if left >= 0:
                    z = int(left ** 0.5)
                    if z * z == left:
                        yield from {(x, y, z), (x, y, -z)}

    def test_quadruples(self):
        for prime, modulus, most in ((5, 3, 6), (5, 7, 6), (5, 13, 6), (13, 3, 4), (13, 11, 4), (17, 3, 4), (29, 7, 3), (61, 5, 3), (61, 13, 3)):
            web = Web(prime, modulus)
            for many in range(1, most + 1):
                # Opposite w tell equally many, so those with w above 0 are half of all.
                self.assertEqual(web.straight_ways(many), self.quadruples(prime, modulus, many), (prime, modulus, many))

    def test_many_steps(self):
        # All ways are made of straight ones: a step more, and one less, at each step.
        for prime, modulus in ((5, 3), (5, 13), (61, 13), (29, 5)):
            web = Web(prime, modulus)
            # The numbers of ways with many steps whose straight part has so many.
            rows = {0: 1}
            for many in range(1, 41):
                made = Counter()
                for size, often in rows.items():
                    made[size + 1] += often
                    if size > 0:
                        made[size - 1] += often * (prime if size > 1 else prime + 1)
                rows = made
                if many in (3, 16, 39, 40):
                    total = sum(often * web.straight_ways(size) for size, often in rows.items())
                    self.assertEqual(web.ways(many), total)
            # Nearly all points are reached equally often by many steps.
            points = len(web) if web.sides is None else len(web) // 2
            self.assertLess(abs(web.ways(40) * points - (prime + 1) ** 40) * 1000, (prime + 1) ** 40)
            self.assertLess(abs(web.straight_ways(40) * points - (prime + 1) * prime ** 39) * 1000, prime ** 40)


if __name__ == "__main__":
    unittest.main()
