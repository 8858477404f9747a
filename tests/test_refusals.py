"""Values of all sorts in the place of each argument: [0.4] and [0.5]."""

import importlib
import inspect
import random
import unittest

from signfours import errors
from signfours.base.ratios import Ratio
from signfours.desk.desk import Desk
from signfours.four.fours import Algebra, Four
from signfours.ideal.classes import Book
from signfours.order.lattices import Lattice
from signfours.order.orders import plain_order
from signfours.whole.webs import Web
from tests.support import ELEVEN, GREAT, HALF, HAMILTON, HURWITZ, I, J, K, LONG, ONE, PLAIN, SIXTY, SPLIT, TEN
from tests.test_interface import FUNCTIONS

TOLD = tuple(vars(errors)[name] for name in vars(errors) if isinstance(vars(errors)[name], type))
WORDS = (
    "put", "take", "scale", "lead", "times", "join", "meet", "order", "greatest", "member", "within", "equal", "norm", "led",
)
PLAIN_VALUES = (
    None, True, False, 0, 1, -1, 2, 3, 4, 5, 6, 7, 11, 13, 60, -1000, 1000, 10 ** 9, SIXTY, LONG, -10 ** 99, "", "a", "best", "(-1, -1)",
    "(-1, -1): 1 0 0 0", "0" * 4000, Ratio(0), Ratio(1), Ratio(1, 2), HAMILTON, ELEVEN, SPLIT, TEN, HALF, ONE, I, J, Four(ELEVEN, (1, 1, 0, 0)),
    Four(TEN, (1, 1, 0, 0)), Four(SPLIT, (1, 1, 0, 0)), PLAIN, HURWITZ, GREAT, HURWITZ.scaled(2), plain_order(TEN), Web(5, 3), Desk(HAMILTON),
    Book(GREAT), (1, 1, 6), (4, 4, 3, 4, 4, 0), ((1, 0), (0, 1)), ((1, 0, 0), (0, 1, 0), (0, 0, 1)), (2, 3), (2,), (11,), (I, J, K), (1, 0, 0, 0),
)


def drawn(draw, deep=0):
    """A drawn value, nested at most eight deep."""
    if draw.random() < 0.7 or deep == 8:
        return draw.choice(PLAIN_VALUES)
    parts = [drawn(draw, deep + 1) for _ in range(draw.randint(0, 4))]
    return draw.choice((tuple(parts), tuple(parts), parts, {str(at): part for at, part in enumerate(parts)}))


def drawn_tuple(draw):
    """A drawn value that is near a deed or a saying."""
    if draw.random() < 0.3:
        return drawn(draw)
    return (draw.choice(WORDS),) + tuple(draw.choice(("a", "b", "c", drawn(draw))) for _ in range(draw.randint(0, 3)))


class Refusals(unittest.TestCase):

    def call(self, function, arguments, more):
        """Calls a function; only errors of the package are let."""
        try:
            return function(*arguments, **more)
        except TOLD:
            return None
        except Exception as error:
            self.fail((function, arguments, more, error))

    def test_functions(self):
        draw = random.Random(1801)
        for module, texts in FUNCTIONS.items():
            for text in texts:
                function = getattr(importlib.import_module(module), text.partition("(")[0])
                parameters = inspect.signature(function).parameters.values()
                for _ in range(250):
                    arguments = [drawn(draw) for one in parameters if one.kind != one.KEYWORD_ONLY]
                    more = {one.name: draw.choice((True, False, drawn(draw))) for one in parameters if one.kind == one.KEYWORD_ONLY}
                    found = self.call(function, arguments, more)
                    if function.__name__.startswith(("is_", "are_")):
                        self.assertIn(repr(found), ("True", "False", "None"))

    def test_classes(self):
        draw = random.Random(1802)
        for kind, many in ((Ratio, 2), (Algebra, 2), (Four, 3), (Lattice, 2), (Book, 1), (Web, 2), (Desk, 1)):
            for _ in range(400):
                self.call(kind, [drawn(draw) for _ in range(many)], {})

    def test_methods(self):
        draw = random.Random(1803)
        web, book = Web(5, 3), Book(GREAT)
        methods = [
            (Ratio(1, 2).over, 1), (Ratio(1, 2).compared, 1), (Ratio.read, 1), (HALF.power, 1), (HALF.scaled, 1), (HURWITZ.by, 1), (HURWITZ.ahead, 1),
            (HURWITZ.scaled, 1), (HURWITZ.index_in, 1), (HURWITZ.holds, 1), (book.index, 1), (book.order_at, 1), (book.lead, 2), (web.neighbours_of, 1),
            (web.ways, 1), (web.straight_ways, 1),
        ]
        for method, many in methods:
            for _ in range(200):
                self.call(method, [drawn(draw) for _ in range(many)], {})
        for thing in (Ratio(1, 2), HAMILTON, HALF, HURWITZ, book, web, Desk(HAMILTON)):
            for _ in range(200):
                value = drawn(draw)
                self.assertIs(thing == value, not thing != value)
        for thing in (HURWITZ, book, web, Desk(HAMILTON)):
            for _ in range(200):
                self.assertIn(drawn(draw) in thing, (True, False))

    def test_desks(self):
        draw = random.Random(1804)
        for _ in range(400):
            desk = Desk(HAMILTON)
            desk.do(("put", "a", HALF), ("put", "b", HURWITZ))
            for _ in range(6):
                before = desk.twin()
                name = draw.choice(("do", "say", "unsay", "is_true", "undo", "__getitem__"))
                value = drawn_tuple(draw)
                found = self.call(getattr(desk, name), [value], {})
                if name == "is_true":
                    self.assertIn(found, (True, False))
                if desk != before:
                    self.assertIn(name, ("do", "say", "unsay", "undo"))

    def test_not_iterated(self):
        for thing in (Ratio(1, 2), HAMILTON, HALF, HURWITZ):
            with self.assertRaises(TypeError):
                list(thing)


if __name__ == "__main__":
    unittest.main()
