"""Texts of algebras, fours and lattices: [14.1] and [14.2]."""

import random
import re
import unittest

from signfours.base.ratios import Ratio
from signfours.errors import InvalidAlgebra, InvalidFour, InvalidLattice, InvalidNumber, ParseError
from signfours.four.fours import Algebra, Four, made_four
from signfours.order.lattices import Lattice
from signfours.text.formats import read_algebra, read_four, read_lattice, write_algebra, write_four, write_lattice
from tests.support import (
    ALGEBRAS, Case, ELEVEN, GREAT, HALF, HAMILTON, HURWITZ, LONG, NO_ALGEBRAS, NO_FOURS, NO_LATTICES, PLAIN, SIXTY, VALUES,
    random_four, random_lattice,
)

NO_TEXTS = tuple(value for value in VALUES if not isinstance(value, str))
SIGNS = "0123456789-+()/,;: .abij\n\t"
INTEGER = r"(?:0|-?[1-9][0-9]{0,59})"
ROW = f"{INTEGER} {INTEGER} {INTEGER} {INTEGER}"
BEHIND = f"(?:/({INTEGER}))?"


def spot_of_algebra(text):
    """What the document says of the text of an algebra: None, or the spot."""
    found = re.fullmatch(rf"\(({INTEGER}), ({INTEGER})\)", text)
    if not found:
        return 0
    return None if all(1 <= abs(int(part)) <= 10 ** 9 for part in found.groups()) else 1


def spot_of_rows(text, many):
    head, mark, tail = text.partition(": ")
    if not mark or spot_of_algebra(head) is not None:
        return 0
    found = re.fullmatch("(" + "; ".join([ROW] * many) + ")" + BEHIND, tail)
    if not found or (found.group(2) is not None and int(found.group(2)) < 2):
        return 1
    rows = [[int(part) for part in row.split(" ")] for row in found.group(1).split("; ")]
    bottom = int(found.group(2) or 1)
    if any(all(entry % part == 0 for row in rows for entry in row) for part in range(2, min(bottom, 5000) + 1) if bottom % part == 0):
        return 2
    if bottom > 5000 and common([bottom] + [entry for row in rows for entry in row]) > 1:
        return 2
    return None if many == 1 or is_plain(rows) else 2


def common(numbers):
    found = 0
    for number in numbers:
        while number:
            found, number = number, found % number
    return abs(found)


def is_plain(rows):
    for at in range(4):
        if any(rows[at][:at]) or rows[at][at] <= 0:
            return False
        if any(not 0 <= rows[ahead][at] < rows[at][at] for ahead in range(at)):
            return False
    return True


class Texts(Case):

    def read(self, function, text):
        """What is read, or the spot."""
        try:
            return function(text), None
        except ParseError as error:
            return None, error.spot

    def judged(self, text, spots):
        """The text is read as what it tells, or refused with the told spot."""
        for read, write, spot in ((read_algebra, write_algebra, spots[0]), (read_four, write_four, spots[1]), (read_lattice, write_lattice, spots[2])):
            found, error = self.read(read, text)
            self.assertEqual(error, spot, (read.__name__, text))
            if spot is None:
                self.assertEqual(write(found), text)
                self.assertEqual(read(write(found)), found)
            else:
                self.assertIs(type(error), int)

    def all_spots(self, text):
        return spot_of_algebra(text), spot_of_rows(text, 1), spot_of_rows(text, 4)

    def things(self):
        draw = random.Random(1501)
        for algebra in ALGEBRAS:
            yield algebra
            for size, bottom in ((3, 1), (3, 6), (SIXTY, 1), (SIXTY, SIXTY), (10 ** 14, 10 ** 14)):
                yield random_four(draw, algebra, size, bottom)
            for size, bottom in ((3, 1), (3, 6), (10 ** 13, 9)):
                yield random_lattice(draw, algebra, size, bottom)
        yield from (HURWITZ, PLAIN, GREAT, HALF, Four(ELEVEN, (0, 0, 0, 0)), Four(ELEVEN, (-SIXTY, SIXTY, 0, -1), SIXTY - 1))

    def test_read_back(self):
        for thing in self.things():
            if isinstance(thing, Algebra):
                self.assertEqual(write_algebra(thing), f"({thing.a}, {thing.b})")
                self.same(read_algebra(write_algebra(thing)), thing)
            elif isinstance(thing, Four):
                text = write_four(thing)
                self.assertEqual(text, f"({thing.algebra.a}, {thing.algebra.b}): {' '.join(map(str, thing.entries))}" + (f"/{thing.bottom}" if thing.bottom > 1 else ""))
                self.same(read_four(text), thing)
            else:
                text = write_lattice(thing)
                rows = "; ".join(" ".join(map(str, row)) for row in thing.rows)
                self.assertEqual(text, f"({thing.algebra.a}, {thing.algebra.b}): {rows}" + (f"/{thing.bottom}" if thing.bottom > 1 else ""))
                if max(max(row) for row in thing.rows) < LONG and thing.bottom < LONG:
                    self.same(read_lattice(text), thing)

    def test_what_is_read(self):
        four = read_four("(-1, -11): -3 0 5 1/2")
        self.assertEqual((four.algebra, four.entries, four.bottom, four.trace, four.is_ratio), (ELEVEN, (-3, 0, 5, 1), 2, Ratio(-3), False))
        lattice = read_lattice("(-1, -1): 1 1 1 1; 0 2 0 0; 0 0 2 0; 0 0 0 2/2")
        self.assertEqual((lattice.rows, lattice.bottom, lattice.algebra), (HURWITZ.rows, 2, HAMILTON))
        self.assertEqual(lattice, HURWITZ)
        self.assertIn(HALF, lattice)
        self.assertEqual(read_algebra("(1, -1000000000)").places, Algebra(1, -10 ** 9).places)

    def test_told_texts(self):
        told = {
            "(-1, -1)": (None, 0, 0), "(-1, -1): ": (0, 1, 1), "(-1, -1):": (0, 0, 0), "": (0, 0, 0), "(": (0, 0, 0), "()": (0, 0, 0), "(, )": (0, 0, 0),
            "(-1, 0)": (1, 0, 0), "(0, 0)": (1, 0, 0), "(1000000001, 1)": (1, 0, 0), "(1, -1000000001)": (1, 0, 0), "(1000000000, 1)": (None, 0, 0),
            "(-1,-1)": (0, 0, 0), "(-1,  -1)": (0, 0, 0), " (-1, -1)": (0, 0, 0), "(-1, -1) ": (0, 0, 0), "(-01, -1)": (0, 0, 0), "(-0, -1)": (0, 0, 0),
            "(+1, -1)": (0, 0, 0), "(-1, -1, -1)": (0, 0, 0), "(-1)": (0, 0, 0), "[-1, -1]": (0, 0, 0), "-1, -1": (0, 0, 0), "(--1, -1)": (0, 0, 0),
            "(-1, -1)\n": (0, 0, 0), "(1_0, 1)": (0, 0, 0), "(1.0, 1)": (0, 0, 0), "(" + "9" * 60 + ", 1)": (1, 0, 0), "(" + "9" * 61 + ", 1)": (0, 0, 0),
            "(-" + "9" * 60 + ", 1)": (1, 0, 0), "(-" + "9" * 61 + ", 1)": (0, 0, 0),
            "(-1, -1): 1 1 1 1/2": (0, None, 1), "(-1, -1): 2 0 0 0/2": (0, 2, 1), "(-1, 0): 2 0 0 0": (0, 0, 0), "(-1, -1): 0 0 0 0": (0, None, 1),
            "(-1, -1): 0 0 0 0/2": (0, 2, 1), "(-1, -1): 1 1 1 1/1": (0, 1, 1), "(-1, -1): 1 1 1 1/0": (0, 1, 1), "(-1, -1): 1 1 1 1/-2": (0, 1, 1),
            "(-1, -1): 1 1 1 1/": (0, 1, 1), "(-1, -1): 1 1 1 1/2/2": (0, 1, 1), "(-1, -1): 1 1 1 1/02": (0, 1, 1), "(-1, -1): 1 1 1 1/2 ": (0, 1, 1),
            "(-1, -1):  1 1 1 1": (0, 1, 1), "(-1, -1): 1 1 1": (0, 1, 1), "(-1, -1): 1 1 1 1 1": (0, 1, 1), "(-1, -1): 1 1  1 1": (0, 1, 1),
            "(-1, -1): 1 1 1 -0": (0, 1, 1), "(-1, -1): 1 1 1 01": (0, 1, 1), "(-1, -1): 1 1 1 +1": (0, 1, 1), "(-1, -1): 1 1 1 1;": (0, 1, 1),
            "(-1, -1) : 1 1 1 1": (0, 0, 0), "(-1, -1):1 1 1 1": (0, 0, 0), "(-1, -1): (-1, -1): 1 1 1 1": (0, 1, 1), ": 1 1 1 1": (0, 0, 0),
            "(-1, -1): 1 1 1 " + "9" * 60: (0, None, 1), "(-1, -1): 1 1 1 " + "9" * 61: (0, 1, 1), "(-1, -1): 1 1 1 -" + "9" * 60 + "/" + "9" * 60: (0, None, 1),
            "(-1, -1): 1 1 1 1/" + "9" * 61: (0, 1, 1), "(-1, -1): 3 6 9 12/15": (0, 2, 1), "(-1, -1): 3 6 9 12/14": (0, None, 1), "(2, 5): -1 -1 -1 -1": (0, None, 1),
            "(-1, -1): 1 0 0 0; 0 1 0 0; 0 0 1 0; 0 0 0 1": (0, 1, None), "(-1, -1): 1 1 1 1; 0 2 0 0; 0 0 2 0; 0 0 0 2/2": (0, 1, None),
            "(-1, -1): 2 0 0 0; 0 2 0 0; 0 0 2 0; 0 0 0 2/2": (0, 1, 2), "(-1, -1): 2 0 0 0; 0 2 0 0; 0 0 2 0; 0 0 0 2": (0, 1, None),
            "(-1, -1): 1 0 0 0; 0 1 0 0; 0 0 1 0; 0 0 0 1/1": (0, 1, 1), "(-1, -1): 1 0 0 0; 0 1 0 0; 0 0 1 0; 0 0 0 1/0": (0, 1, 1),
            "(-1, -1): 1 1 0 0; 0 1 0 0; 0 0 1 0; 0 0 0 1": (0, 1, 2), "(-1, -1): 1 -1 0 0; 0 2 0 0; 0 0 1 0; 0 0 0 1": (0, 1, 2),
            "(-1, -1): 1 0 0 0; 0 1 0 0; 0 0 1 0; 0 0 0 -1": (0, 1, 2), "(-1, -1): 1 0 0 0; 0 1 0 0; 0 0 1 0; 0 0 0 0": (0, 1, 2),
            "(-1, -1): 1 0 0 0; 1 1 0 0; 0 0 1 0; 0 0 0 1": (0, 1, 2), "(-1, -1): 0 1 0 0; 1 0 0 0; 0 0 1 0; 0 0 0 1": (0, 1, 2),
            "(-1, -1): 1 0 0 0; 0 1 0 0; 0 0 1 0": (0, 1, 1), "(-1, -1): 1 0 0 0; 0 1 0 0; 0 0 1 0; 0 0 0 1; 0 0 0 1": (0, 1, 1),
            "(-1, -1): 1 0 0 0;0 1 0 0; 0 0 1 0; 0 0 0 1": (0, 1, 1), "(-1, -1): 1 0 0 0; 0 1 0 0; 0 0 1 0; 0 0 0 1;": (0, 1, 1),
            "(-1, -1): 1 0 0; 0 1 0 0 0; 0 0 1 0; 0 0 0 1": (0, 1, 1), "(-1, -1): 1 0 0 0/2; 0 1 0 0; 0 0 1 0; 0 0 0 1": (0, 1, 1),
            "(-1, -1): " + "9" * 60 + " 0 0 0; 0 1 0 0; 0 0 1 0; 0 0 0 1": (0, 1, None), "(-1, -1): " + "9" * 61 + " 0 0 0; 0 1 0 0; 0 0 1 0; 0 0 0 1": (0, 1, 1),
            "(-1, 0): 1 0 0 0; 0 1 0 0; 0 0 1 0; 0 0 0 1": (0, 0, 0), "(" * 4000: (0, 0, 0), "1" * 4000: (0, 0, 0), "(-1, -1): " + "1" * 3900: (0, 1, 1),
        }
        for text, spots in told.items():
            self.assertEqual(self.all_spots(text), spots, text)
            self.judged(text, spots)

    def near(self, draw, text):
        """A text near another one: signs or parts changed, put in, left out or exchanged."""
        kind, at = draw.randrange(6), draw.randrange(len(text) + 1)
        if kind == 0:
            return text[:at] + draw.choice(SIGNS) + text[at:]
        if kind == 1:
            return text[:at] + text[at + 1:]
        if kind == 2:
            return text[:at] + draw.choice(SIGNS) + text[at + 1:]
        if kind == 3:
            words = text.split(" ")
            one, other = draw.randrange(len(words)), draw.randrange(len(words))
            words[one], words[other] = words[other], words[one]
            return " ".join(words)
        if kind == 4:
            words = text.split(" ")
            words[draw.randrange(len(words))] = draw.choice(("0", "-0", "00", "1", "-1", "2", "4/2", "0/2", "3;", "", "9" * 61, "(1,", "1):"))
            return " ".join(words)
        return text[:at] + text[draw.randrange(len(text)):]

    def test_near_texts(self):
        draw = random.Random(1502)
        texts = []
        for thing in list(self.things()):
            write = write_algebra if isinstance(thing, Algebra) else write_four if isinstance(thing, Four) else write_lattice
            texts.append(write(thing))
        short = [text for text in texts if len(text) < 90]
        for _ in range(6000):
            text = self.near(draw, draw.choice(short))
            if draw.random() < 0.3:
                text = self.near(draw, text) if text else text
            self.judged(text, self.all_spots(text))

    def test_no_strings(self):
        for given in NO_TEXTS:
            for function in (read_algebra, read_four, read_lattice):
                self.assertIsNone(self.error_of(ParseError, function, given).spot)

    def test_no_things(self):
        for given in NO_ALGEBRAS:
            self.error_of(InvalidAlgebra, write_algebra, given)
        for given in NO_FOURS:
            self.error_of(InvalidFour, write_four, given)
        for given in NO_LATTICES:
            self.error_of(InvalidLattice, write_lattice, given)
        self.assertTrue(issubclass(InvalidNumber, IndexError))

    def test_long_integers(self):
        # What is longer than sixty digits is written, but not read.
        four = made_four(HAMILTON, (LONG, 1, 0, 0), 1)
        self.assertEqual(write_four(four), f"(-1, -1): {LONG} 1 0 0")
        self.assertEqual(self.error_of(ParseError, read_four, write_four(four)).spot, 1)
        lattice = Lattice(HAMILTON, PLAIN.basis()).scaled(SIXTY).scaled(10)
        self.assertEqual(self.error_of(ParseError, read_lattice, write_lattice(lattice)).spot, 1)


if __name__ == "__main__":
    unittest.main()
