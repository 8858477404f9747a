"""Desks: [14.3] to [14.5]."""

import random
import unittest
from itertools import combinations

from signfours.base.ratios import Ratio
from signfours.desk.desk import Desk
from signfours.errors import InvalidAlgebra, InvalidOperation, NothingToUndo, Refused, TooMany, UnknownName
from signfours.four.fours import Algebra, Four
from signfours.four.leading import is_leading, leading
from signfours.order.lattices import Lattice
from signfours.order.orders import greatest_over, is_greatest, is_order, plain_order
from tests.support import (
    Case, ELEVEN, GREAT, HALF, HAMILTON, HURWITZ, I, J, K, LONG, NO_ALGEBRAS, NO_INTEGERS, ONE, PLAIN, SIXTY, SPLIT, TEN, TOO_LONG,
    VALUES, random_four, random_lattice,
)

NO_NAMES = tuple(value for value in VALUES if value not in ("a", "1")) + (
    "", "A", "aB", "a1", "a b", "a_", "abcdefghi", "a" * 4000, " a", "a\n", "1", ("a",), ["a"], None, True, 0,
)
NAMES = ("a", "b", "c", "best", "plain", "z", "abcdefgh")
ZERO_NORM = Four(SPLIT, (1, 1, 0, 0))


def copy_of(desk):
    return desk.things, desk.sayings, desk.past


def error_like(function, *arguments):
    """The error that is raised, as a tuple, or None."""
    try:
        function(*arguments)
    except UnknownName as error:
        return "unknown", error.wanted
    except Refused as error:
        return "refused", error.reason
    except TooMany as error:
        return "many", error.most
    except NothingToUndo as error:
        return "nothing", error.steps
    except InvalidOperation:
        return ("operation",)
    return None


class Model:
    """A desk as the document tells it: a list of states."""

    def __init__(self, algebra):
        self.algebra = algebra
        self.states = [({}, ())]

    @property
    def now(self):
        return self.states[-1]

    def put_state(self, things, sayings):
        if (things, sayings) != self.now:
            self.states.append((things, sayings))

    def truth(self, things, saying):
        word, *names = saying
        one = things[names[0]]
        if word == "order":
            return isinstance(one, Lattice) and is_order(one)
        if word == "greatest":
            return isinstance(one, Lattice) and is_order(one) and is_greatest(one)
        if word == "norm":
            return (one.norm if isinstance(one, Four) else one.lattice_norm()) == saying[2]
        other = things[names[1]]
        if word == "member":
            return isinstance(one, Four) and isinstance(other, Lattice) and one in other
        if word == "within":
            return isinstance(one, Lattice) and isinstance(other, Lattice) and other + one == other
        if word == "equal":
            return type(one) is type(other) and one == other
        if not isinstance(one, Four) or not isinstance(other, Four):
            return False
        lead = leading(one, other)
        return lead is not None and is_leading(one, other, lead)

    def names(self, saying):
        return saying[1:2] if saying[0] in ("order", "greatest", "norm") else saying[1:3]

    def do(self, *deeds):
        things, sayings = dict(self.now[0]), self.now[1]
        for at, deed in enumerate(deeds):
            word = deed[0]
            asked = {"take": deed[1:2], "scale": deed[1:2], "put": (), "lead": ()}.get(word, deed[2:4])
            for name in asked:
                if name not in things:
                    raise UnknownName(name)
            if word == "put":
                things[deed[1]] = deed[2]
            elif word == "take":
                del things[deed[1]]
            elif word == "scale":
                things[deed[1]] = things[deed[1]].scaled(deed[2])
            elif word == "lead":
                back = deed[1].inverse()
                for name, thing in things.items():
                    things[name] = deed[1] * thing * back if isinstance(thing, Four) else thing.by(back).ahead(deed[1])
            else:
                one, other = things[deed[2]], things[deed[3]]
                if type(one) is not type(other) or (word != "times" and isinstance(one, Four)):
                    raise Refused(("kinds", at))
                if word == "times":
                    things[deed[1]] = one * other
                else:
                    things[deed[1]] = one + other if word == "join" else one & other
        for saying in sayings:
            if any(name not in things for name in self.names(saying)):
                raise Refused(("taken", saying))
        for saying in sayings:
            if not self.truth(things, saying):
                raise Refused(("broken", saying))
        self.put_state(things, sayings)

    def say(self, saying):
        things, sayings = self.now
        for name in self.names(saying):
            if name not in things:
                raise UnknownName(name)
        if saying in sayings:
            return
        if len(sayings) == 30:
            raise TooMany(30)
        if not self.truth(things, saying):
            raise Refused(("false",))
        self.put_state(things, sayings + (saying,))

    def unsay(self, saying):
        things, sayings = self.now
        if saying not in sayings:
            raise UnknownName(saying)
        self.put_state(things, tuple(kept for kept in sayings if kept != saying))

    def undo(self, steps=1):
        if steps >= len(self.states):
            raise NothingToUndo(steps)
        del self.states[len(self.states) - steps:]


class Histories(Case):

    def thing(self, draw, algebra, best):
        kind = draw.randrange(6)
        if kind == 0:
            return draw.choice(best)
        if kind == 1:
            return random_lattice(draw, algebra, 2)
        if kind == 2:
            return draw.choice(algebra.basis()).scaled(draw.choice((1, -1, 2, 0)))
        if kind == 3:
            return draw.choice(best[0].basis())
        return random_four(draw, algebra, 2, 2)

    def deed(self, draw, model, best):
        algebra = model.algebra
        word = draw.choice(("put", "put", "put", "put", "take", "scale", "lead", "times", "join", "meet"))
        kept = sorted(model.now[0]) or NAMES[:1]
        # Most names stand for something, and most things are of the kinds that a deed needs.
        name, one, other = [draw.choice(kept if draw.random() < 0.9 else NAMES) for _ in range(3)]
        if word in ("join", "meet") and draw.random() < 0.8:
            one, other = draw.choice(self.lattices(model) or kept), draw.choice(self.lattices(model) or kept)
        if word == "put":
            name = draw.choice(NAMES)
        if word == "put":
            return word, name, self.thing(draw, algebra, best)
        if word == "take":
            return word, name
        if word == "scale":
            return word, name, draw.choice((Ratio(1), Ratio(-1), Ratio(2), Ratio(1, 2), Ratio(-3, 5)))
        if word == "lead":
            return word, random_four(draw, algebra, 2)
        return word, name, one, other

    def lattices(self, model):
        return [name for name in sorted(model.now[0]) if isinstance(model.now[0][name], Lattice)]

    def saying(self, draw, model):
        """A drawn saying; most of them are true."""
        for _ in range(12):
            saying = self.any_saying(draw, model)
            if all(name in model.now[0] for name in model.names(saying)) and model.truth(model.now[0], saying):
                break
        return saying

    def any_saying(self, draw, model):
        word = draw.choice(("order", "greatest", "member", "within", "equal", "norm", "led", "member", "norm"))
        kept = sorted(model.now[0]) or NAMES[:1]
        one, other = [draw.choice(kept if draw.random() < 0.95 else NAMES) for _ in range(2)]
        if word in ("order", "greatest"):
            return word, one
        if word == "norm":
            thing = model.now[0].get(one)
            ratio = Ratio(draw.randint(0, 3)) if thing is None or draw.random() < 0.2 else thing.norm if isinstance(thing, Four) else thing.lattice_norm()
            return word, one, ratio
        return word, one, other

    def test_histories(self):
        draw = random.Random(1601)
        for round_at in range(45):
            algebra = (HAMILTON, ELEVEN, TEN, SPLIT)[round_at % 4]
            best = (greatest_over(plain_order(algebra)), plain_order(algebra))
            desk, model = Desk(algebra), Model(algebra)
            twins = []
            for _ in range(60):
                kind = draw.random()
                if kind < 0.55:
                    deeds = [self.deed(draw, model, best) for _ in range(draw.choice((0, 1, 1, 1, 2, 3, 5)))]
                    call, arguments = "do", deeds
                elif kind < 0.82:
                    call, arguments = "say", [self.saying(draw, model)]
                elif kind < 0.88:
                    kept = model.now[1]
                    call, arguments = "unsay", [draw.choice(kept) if kept and draw.random() < 0.8 else self.saying(draw, model)]
                elif kind < 0.95:
                    call, arguments = "undo", draw.choice(([], [1], [1], [2], [30]))
                else:
                    twins.append((desk.twin(), [state for state in model.states]))
                    continue
                ahead = copy_of(desk)
                told = error_like(getattr(model, call), *arguments)
                found = error_like(getattr(desk, call), *arguments)
                self.assertEqual(found, told, (call, arguments))
                if told is not None:
                    self.assertEqual(copy_of(desk), ahead)
                self.judged(desk, model)
            for twin, states in twins:
                self.assertEqual((twin.things, twin.sayings, twin.past), states[-1] + (len(states) - 1,))
            while desk.past:
                desk.undo()
                model.undo()
                self.judged(desk, model)
            self.assertEqual(desk, Desk(algebra))

    def judged(self, desk, model):
        things, sayings = model.now
        self.assertEqual(desk.things, things)
        self.assertEqual(list(desk.things), sorted(things))
        self.assertEqual(list(desk), sorted(things))
        self.same(desk.sayings, sayings)
        self.same(desk.past, len(model.states) - 1)
        self.same(len(desk), len(things))
        self.assertEqual(desk.algebra, model.algebra)
        self.assertTrue(all(desk.is_true(saying) is True for saying in sayings))
        self.assertEqual(str(desk), f"desk of {model.algebra}: {len(things)} things, {len(sayings)} sayings")
        for name in NAMES:
            self.assertIs(name in desk, name in things)
            if name in things:
                self.assertEqual(desk[name], things[name])


def made_desk():
    desk = Desk(HAMILTON)
    desk.do(("put", "h", HALF), ("put", "plain", PLAIN), ("put", "best", HURWITZ), ("put", "i", I), ("put", "j", J))
    return desk


class Deeds(Case):

    def same_desk(self, desk, error, function, *arguments):
        """A refused call changes nothing."""
        ahead, twin = copy_of(desk), desk.twin()
        caught = self.error_of(error, function, *arguments)
        self.assertEqual(copy_of(desk), ahead)
        self.assertEqual(desk, twin)
        return caught

    def test_no_deeds(self):
        desk = made_desk()
        other = Algebra(-1, -2)
        wrong = [
            (), ("put",), ("put", "a"), ("put", "a", HALF, 1), ("put", "a", 1), ("put", "a", Ratio(1)), ("put", "a", None), ("put", "a", Four(other, (1, 0, 0, 0))),
            ("put", "a", GREAT), ("put", "a", "h"), ("take",), ("take", "h", "i"), ("scale", "h"), ("scale", "h", 2), ("scale", "h", Ratio(0)), ("scale", "h", True),
            ("scale", "h", HALF), ("scale", "h", "2"), ("lead",), ("lead", "h"), ("lead", HURWITZ), ("lead", ONE - ONE), ("lead", Four(other, (1, 0, 0, 0))),
            ("lead", ONE, ONE), ("times", "a", "h"), ("times", "a", "h", "i", "j"), ("times", "a", HALF, "i"), ("join", "a", "best"), ("meet", "a", "best", HURWITZ),
            ("meet", "a", "best", 1), ("PUT", "a", HALF), ("give", "a", HALF), ("order", "best"), ("equal", "h", "i"), ["put", "a", HALF], "put", None, 1, ["take", "h"],
            (("put", "a", HALF),), (["put"], "a", HALF), (None, "a"), ({}, "a"), (HALF, "a"), {"put": 1},
        ]
        for name in NO_NAMES:
            wrong += [
                ("put", name, HALF), ("take", name), ("scale", name, Ratio(2)), ("times", name, "h", "i"), ("times", "a", name, "i"), ("times", "a", "h", name),
                ("join", name, "best", "best"), ("meet", "a", name, "best"),
            ]
        for given in tuple(wrong) + VALUES:
            self.same_desk(desk, InvalidOperation, desk.do, given)
        for given in wrong[:60]:
            # What is no deed comes ahead of all that the deeds ahead of it would be refused for.
            self.same_desk(desk, InvalidOperation, desk.do, ("take", "nothing"), given)
            self.same_desk(desk, InvalidOperation, desk.do, ("put", "a", ONE), given)
            self.same_desk(desk, InvalidOperation, desk.do, ("join", "a", "h", "i"), given)
        split = Desk(SPLIT)
        self.same_desk(split, InvalidOperation, split.do, ("lead", ZERO_NORM))
        split.do(("put", "zero", ZERO_NORM))
        self.assertEqual(split["zero"].norm, 0)

    def test_unknown_names(self):
        desk = made_desk()
        for deed, wanted in (
            (("take", "x"), "x"), (("scale", "x", Ratio(2)), "x"), (("times", "h", "x", "y"), "x"), (("times", "x", "h", "y"), "y"), (("join", "x", "y", "h"), "y"),
            (("meet", "x", "h", "z"), "z"), (("meet", "x", "x", "x"), "x"), (("join", "abcdefgh", "best", "abcdefgh"), "abcdefgh"),
        ):
            self.assertEqual(self.same_desk(desk, UnknownName, desk.do, deed).wanted, wanted)
            self.assertEqual(self.same_desk(desk, UnknownName, desk.do, ("put", "new", ONE), deed, ("take", "q")).wanted, wanted)
        self.assertEqual(self.same_desk(desk, UnknownName, desk.do, ("take", "h"), ("scale", "h", Ratio(2))).wanted, "h")
        self.assertEqual(self.same_desk(desk, UnknownName, desk.do, ("take", "h"), ("take", "h")).wanted, "h")
        self.assertEqual(self.same_desk(desk, Refused, desk.do, ("join", "a", "h", "best"), ("take", "x")).reason, ("kinds", 0))
        self.assertEqual(self.same_desk(desk, UnknownName, desk.do, ("take", "x"), ("join", "a", "h", "best")).wanted, "x")
        desk.do(("put", "x", ONE), ("times", "y", "x", "h"), ("take", "x"))
        self.assertEqual(desk["y"], HALF)

    def test_kinds(self):
        desk = made_desk()
        for deed in (
            ("times", "a", "h", "best"), ("times", "a", "best", "h"), ("join", "a", "h", "i"), ("join", "a", "h", "best"), ("meet", "a", "best", "h"), ("meet", "a", "i", "i"),
        ):
            self.assertEqual(self.same_desk(desk, Refused, desk.do, deed).reason, ("kinds", 0))
            self.assertEqual(self.same_desk(desk, Refused, desk.do, ("put", "a", ONE), ("take", "a"), deed, ("take", "x")).reason, ("kinds", 2))

    def test_each_deed(self):
        desk = made_desk()
        self.assertIsNone(desk.do(("times", "k", "i", "j"), ("times", "back", "j", "i"), ("join", "all", "plain", "best"), ("meet", "few", "plain", "best")))
        self.assertEqual([desk[name] for name in ("k", "back", "all", "few")], [K, -K, HURWITZ, PLAIN])
        desk.do(("times", "best", "best", "plain"), ("scale", "plain", Ratio(-2)), ("scale", "i", Ratio(-1, 2)))
        self.assertEqual([desk[name] for name in ("best", "plain", "i")], [HURWITZ * PLAIN, PLAIN.scaled(2), I.scaled(Ratio(-1, 2))])
        desk.do(("lead", ONE + I), ("put", "new", J))
        self.assertEqual([desk["j"], desk["new"], desk["best"]], [K, J, HURWITZ * PLAIN])
        desk.do(("put", "h", HURWITZ), ("times", "h", "h", "h"))
        self.assertEqual(desk["h"], HURWITZ)
        desk.do(*[("take", name) for name in desk])
        self.assertEqual((len(desk), desk.things, list(desk), desk.past), (0, {}, [], 6))

    def test_steps(self):
        desk = made_desk()
        self.assertEqual(desk.past, 1)
        for deeds in (
            (), (("put", "h", HALF),), (("put", "best", greatest_over(PLAIN)), ("put", "i", Four(HAMILTON, (0, 2, 0, 0), 2))), (("scale", "h", Ratio(1)),),
            (("scale", "h", Ratio(2)), ("scale", "h", Ratio(1, 2))), (("put", "new", ONE), ("take", "new")), (("lead", ONE.scaled(3)),), (("lead", I), ("lead", I)),
            (("take", "h"), ("put", "h", HALF)), (("meet", "plain", "plain", "best"),), (("scale", "best", Ratio(-1)),),
        ):
            self.assertIsNone(desk.do(*deeds))
            self.assertEqual(desk.past, 1)
        desk.do(("put", "h", PLAIN))
        self.assertEqual(desk.past, 2)
        self.assertIsNone(desk.undo())
        self.assertEqual((desk["h"], desk.past), (HALF, 1))
        desk.undo(1)
        self.assertEqual(desk, Desk(HAMILTON))
        self.assertEqual(desk.past, 0)

    def test_sayings_are_asked_last(self):
        desk = made_desk()
        for saying in (("member", "h", "best"), ("within", "plain", "best"), ("greatest", "best"), ("equal", "i", "i")):
            desk.say(saying)
        # What is broken between two deeds is whole again.
        desk.do(("scale", "best", Ratio(2)), ("scale", "h", Ratio(3)), ("scale", "best", Ratio(1, 2)))
        desk.do(("take", "best"), ("put", "best", HURWITZ))
        self.assertEqual(desk["h"], HALF.scaled(3))
        self.assertEqual(self.same_desk(desk, Refused, desk.do, ("meet", "best", "plain", "best")).reason, ("broken", ("member", "h", "best")))
        self.assertEqual(self.same_desk(desk, Refused, desk.do, ("scale", "plain", Ratio(1, 2))).reason, ("broken", ("within", "plain", "best")))
        self.assertEqual(self.same_desk(desk, Refused, desk.do, ("put", "best", I)).reason, ("broken", ("member", "h", "best")))
        self.assertEqual(self.same_desk(desk, Refused, desk.do, ("put", "h", HURWITZ), ("put", "best", PLAIN)).reason, ("broken", ("member", "h", "best")))
        # A name that is there no more comes ahead of all that is false, though it stands behind.
        self.assertEqual(self.same_desk(desk, Refused, desk.do, ("put", "best", PLAIN), ("take", "i")).reason, ("taken", ("equal", "i", "i")))
        self.assertEqual(self.same_desk(desk, Refused, desk.do, ("take", "i"), ("take", "plain")).reason, ("taken", ("within", "plain", "best")))
        self.assertEqual(self.same_desk(desk, UnknownName, desk.do, ("take", "i"), ("take", "i")).wanted, "i")
        desk.unsay(("equal", "i", "i"))
        desk.do(("take", "i"))
        self.assertNotIn("i", desk)

    def test_led_things_keep_sayings(self):
        draw = random.Random(1602)
        desk = made_desk()
        desk.do(("put", "k", K), ("put", "fat", HURWITZ.by(ONE + I + J)), ("put", "two", ONE.scaled(2)))
        sayings = (
            ("order", "plain"), ("greatest", "best"), ("member", "h", "best"), ("within", "fat", "best"), ("equal", "best", "best"), ("norm", "h", Ratio(1)),
            ("norm", "fat", Ratio(3)), ("led", "i", "k"), ("led", "two", "two"), ("norm", "best", Ratio(1)), ("member", "two", "plain"),
        )
        for saying in sayings:
            desk.say(saying)
        for _ in range(30):
            desk.do(("lead", random_four(draw, HAMILTON, 9, 5)))
            self.assertEqual(desk.sayings, sayings)
            self.assertTrue(all(desk.is_true(saying) for saying in sayings))


class Sayings(Case):

    def test_truths(self):
        desk = made_desk()
        desk.do(("put", "k", K), ("put", "two", ONE.scaled(2)), ("put", "wide", HURWITZ.scaled(Ratio(1, 2))), ("put", "same", HURWITZ), ("put", "zero", ONE - ONE))
        told = [
            (("order", "plain"), True), (("order", "best"), True), (("order", "wide"), False), (("order", "h"), False), (("greatest", "plain"), False), (("greatest", "best"), True),
            (("greatest", "wide"), False), (("greatest", "i"), False), (("member", "h", "best"), True), (("member", "h", "plain"), False), (("member", "best", "h"), False),
            (("member", "h", "i"), False), (("member", "plain", "best"), False), (("member", "zero", "plain"), True), (("within", "plain", "best"), True),
            (("within", "best", "plain"), False), (("within", "best", "best"), True), (("within", "h", "best"), False), (("within", "plain", "h"), False),
            (("equal", "best", "same"), True), (("equal", "best", "plain"), False), (("equal", "h", "h"), True), (("equal", "h", "best"), False), (("equal", "best", "h"), False),
            (("norm", "h", Ratio(1)), True), (("norm", "h", Ratio(2)), False), (("norm", "wide", Ratio(1, 4)), True), (("norm", "wide", Ratio(1)), False),
            (("norm", "zero", Ratio(0)), True), (("led", "i", "j"), True), (("led", "i", "k"), True), (("led", "i", "h"), False), (("led", "two", "two"), True),
            (("led", "two", "i"), False), (("led", "h", "h"), True), (("led", "zero", "zero"), True), (("led", "best", "same"), False), (("led", "i", "best"), False),
            (("led", "zero", "two"), False), (("led", "h", "two"), False),
        ]
        for saying, truth in told:
            self.assertIs(desk.is_true(saying), truth, saying)
            twin = desk.twin()
            if truth:
                self.assertIsNone(twin.say(saying))
                self.assertEqual((twin.sayings, twin.past), ((saying,), desk.past + 1))
            else:
                self.refused(("false",), twin.say, saying)
                self.assertEqual(twin, desk)

    def no_sayings(self):
        found = [
            (), ("order",), ("order", "best", "best"), ("greatest",), ("member", "h"), ("member", "h", "best", "best"), ("within", "plain"), ("equal", "h"), ("norm", "h"),
            ("norm", "h", 1), ("norm", "h", "1"), ("norm", "h", None), ("norm", "h", True), ("norm", "h", HALF), ("norm", Ratio(1), "h"), ("norm", "h", Ratio(1), 1), ("led", "i"),
            ("led", "i", I), ("equal", HALF, HALF), ("ORDER", "best"), ("even", "best"), ("put", "h", HALF), ("take", "h"), ["order", "best"], "order", ("norm", "h", (Ratio(1),)),
            (("order", "best"),), (["order"], "best"), (None, "best"), ({}, "best"), None, 1, {"order": "best"}, ("order", ("best",)),
        ]
        for name in NO_NAMES:
            found += [("order", name), ("greatest", name), ("member", name, "best"), ("member", "h", name), ("norm", name, Ratio(1)), ("led", "i", name), ("equal", name, name)]
        return tuple(found) + VALUES

    def test_no_sayings(self):
        desk = made_desk()
        desk.say(("norm", "h", Ratio(1)))
        ahead = copy_of(desk)
        for given in self.no_sayings():
            self.error_of(InvalidOperation, desk.say, given)
            self.assertIs(desk.is_true(given), False)
            self.assertIs(self.error_of(UnknownName, desk.unsay, given).wanted, given)
            self.assertEqual(copy_of(desk), ahead)

    def test_unknown_names(self):
        desk = made_desk()
        for saying, wanted in (
            (("order", "x"), "x"), (("member", "x", "y"), "x"), (("member", "h", "y"), "y"), (("equal", "y", "x"), "y"), (("norm", "x", Ratio(1)), "x"), (("led", "i", "x"), "x"),
        ):
            self.assertEqual(self.error_of(UnknownName, desk.say, saying).wanted, wanted)
            self.assertIs(desk.is_true(saying), False)
            self.assertEqual(self.error_of(UnknownName, desk.unsay, saying).wanted, saying)
            self.assertEqual((desk.sayings, desk.past), ((), 1))

    def test_kept_once(self):
        desk = made_desk()
        first, second = ("norm", "h", Ratio(1)), ("order", "best")
        for saying in (first, second, first, ("norm", "h", Ratio(3, 3)), second):
            self.assertIsNone(desk.say(saying))
        self.assertEqual((desk.sayings, desk.past), ((first, second), 3))
        self.assertIsNone(desk.unsay(("norm", "h", Ratio(2, 2))))
        self.assertEqual((desk.sayings, desk.past), ((second,), 4))
        self.assertEqual(self.error_of(UnknownName, desk.unsay, first).wanted, first)
        desk.say(first)
        self.assertEqual(desk.sayings, (second, first))
        desk.undo()
        desk.undo()
        self.assertEqual((desk.sayings, desk.past), ((first, second), 3))
        # What is not kept, but true.
        self.assertEqual(self.error_of(UnknownName, desk.unsay, ("greatest", "best")).wanted, ("greatest", "best"))
        self.assertEqual(self.error_of(UnknownName, desk.unsay, ("norm", "h", 1)).wanted, ("norm", "h", 1))

    def test_thirty_sayings(self):
        desk = Desk(HAMILTON)
        names = ["a", "b", "c", "d", "e", "f", "g", "h"]
        desk.do(*[("put", name, ONE) for name in names], ("put", "best", HURWITZ))
        told = [("equal", one, other) for one, other in combinations(names, 2)] + [("equal", "a", "a"), ("equal", "b", "b")]
        self.assertEqual(len(told), 30)
        for saying in told:
            desk.say(saying)
        ahead = copy_of(desk)
        for saying in (("equal", "c", "c"), ("order", "best"), ("order", "a"), ("norm", "a", Ratio(7))):
            self.too_many(30, desk.say, saying)
        # Kept ones, unknown names and what is no saying come ahead.
        self.assertIsNone(desk.say(told[7]))
        self.error_of(UnknownName, desk.say, ("order", "x"))
        self.error_of(InvalidOperation, desk.say, ("order",))
        self.assertEqual(copy_of(desk), ahead)
        self.assertEqual(str(desk), "desk of (-1, -1): 9 things, 30 sayings")
        desk.unsay(told[3])
        self.refused(("false",), desk.say, ("order", "a"))
        desk.say(("order", "best"))
        self.assertEqual(desk.sayings, tuple(told[:3] + told[4:] + [("order", "best")]))
        self.assertEqual(self.error_of(Refused, desk.do, ("take", "h")).reason, ("taken", ("equal", "a", "h")))


class Desks(Case):

    def test_undo(self):
        desk = made_desk()
        for many in range(2, 6):
            desk.do(("scale", "h", Ratio(many)))
        states = [HALF.scaled(size) for size in (1, 2, 6, 24, 120)]
        self.assertEqual((desk["h"], desk.past), (states[4], 5))
        self.assertIsNone(desk.undo(2))
        self.assertEqual((desk["h"], desk.past), (states[2], 3))
        for given in NO_INTEGERS + TOO_LONG + (0, -1, -SIXTY):
            self.no_number(given, desk.undo, given)
        for given in (4, 5, SIXTY):
            self.assertEqual(self.error_of(NothingToUndo, desk.undo, given).steps, given)
        self.assertEqual((desk["h"], desk.past), (states[2], 3))
        desk.undo(steps=3)
        self.assertEqual((desk, desk.past), (Desk(HAMILTON), 0))
        self.assertEqual(self.error_of(NothingToUndo, desk.undo).steps, 1)

    def test_undo_brings_back(self):
        # A step and undo() leave the desk equal to what it was.
        desk = made_desk()
        desk.say(("order", "best"))
        for call in (
            lambda: desk.do(("take", "h"), ("put", "x", ONE)), lambda: desk.say(("greatest", "best")), lambda: desk.unsay(("order", "best")),
            lambda: desk.do(("lead", ONE + I + J)), lambda: desk.do(("put", "best", PLAIN)),
        ):
            twin = desk.twin()
            call()
            self.assertNotEqual(desk, twin)
            self.assertEqual(desk.past, twin.past + 1)
            desk.undo()
            self.assertEqual(desk, twin)
            self.assertEqual(copy_of(desk), copy_of(twin))

    def test_twins(self):
        desk = made_desk()
        desk.say(("order", "best"))
        twin = desk.twin()
        self.assertEqual(twin, desk)
        self.assertIsNot(twin, desk)
        self.assertEqual(copy_of(twin), copy_of(desk))
        ahead = copy_of(desk)
        twin.do(("take", "h"))
        twin.unsay(("order", "best"))
        twin.undo(3)
        self.assertEqual(copy_of(desk), ahead)
        other = desk.twin()
        desk.undo(2)
        self.assertEqual((other.past, len(other), desk.past, len(desk)), (2, 5, 0, 0))
        other.undo()
        other.undo()
        self.assertEqual(other, Desk(HAMILTON))

    def test_no_shared_state(self):
        desk = made_desk()
        desk.say(("order", "best"))
        ahead = copy_of(desk)
        told = desk.things
        told["x"] = ONE
        del told["h"]
        told["best"] = PLAIN
        self.assertEqual(copy_of(desk), ahead)
        names = list(desk)
        names.append("x")
        self.assertEqual(list(desk), ["best", "h", "i", "j", "plain"])
        self.assertIs(type(desk.sayings), tuple)
        kept = desk.things
        desk.do(("take", "h"))
        self.assertIn("h", kept)
        self.assertNotIn("h", desk.things)

    def test_names(self):
        desk = made_desk()
        for given in VALUES + ("x", "H", "", "hh", ("h",), ["h"], {"h": 1}, "h "):
            self.assertIs(given in desk, False)
            with self.assertRaises(UnknownName) as caught:
                desk[given]
            self.assertIs(caught.exception.wanted, given)
        self.assertEqual([name in desk for name in ("h", "best")], [True, True])
        self.assertEqual([desk["h"], desk["best"]], [HALF, HURWITZ])
        self.assertEqual([name for name in desk], ["best", "h", "i", "j", "plain"])
        self.assertEqual(list(desk.things), ["best", "h", "i", "j", "plain"])
        desk.do(("put", "abcdefgh", ONE), ("put", "a", ONE))
        self.assertEqual(list(desk), ["a", "abcdefgh", "best", "h", "i", "j", "plain"])
        self.assertEqual((len(desk), len(Desk(TEN))), (7, 0))

    def test_equal_desks(self):
        one, other = made_desk(), Desk(HAMILTON)
        for name, thing in (("j", J), ("i", I), ("best", HURWITZ), ("plain", PLAIN), ("h", HALF)):
            other.do(("put", name, thing))
        self.assertTrue(one == other and not one != other)
        self.assertNotEqual(one.past, other.past)
        one.say(("order", "best"))
        self.assertFalse(one == other)
        one.say(("order", "plain"))
        other.say(("order", "plain"))
        other.say(("order", "best"))
        self.assertTrue(one != other)
        other.unsay(("order", "plain"))
        other.say(("order", "plain"))
        self.assertTrue(one == other)
        other.do(("scale", "h", Ratio(-1)))
        self.assertFalse(one == other)
        self.assertFalse(Desk(HAMILTON) == Desk(ELEVEN))
        self.assertTrue(Desk(HAMILTON) == Desk(Algebra(-1, -1)))
        for value in VALUES:
            self.assertIs(one == value, False)
            self.assertIs(one != value, True)
        self.assertIs(Desk(HAMILTON) == {}, False)
        self.assertEqual([str(Desk(TEN)), str(one)], ["desk of (2, 5): 0 things, 0 sayings", "desk of (-1, -1): 5 things, 2 sayings"])

    def test_no_algebras(self):
        for given in NO_ALGEBRAS:
            self.error_of(InvalidAlgebra, Desk, given)

    def test_refusals_of_one_algebra(self):
        desk = Desk(TEN)
        self.error_of(InvalidOperation, desk.do, ("put", "a", HALF))
        desk.do(("put", "a", Four(TEN, (1, 2, 3, 4), 5)), ("put", "b", plain_order(TEN)), ("put", "c", greatest_over(plain_order(TEN))))
        self.assertEqual([desk.is_true(("greatest", name)) for name in "abc"], [False, False, True])
        self.assertIs(desk.is_true(("within", "b", "c")), True)

    def test_great_integers(self):
        draw = random.Random(1603)
        desk = made_desk()
        desk.say(("member", "h", "best"))
        four = random_four(draw, HAMILTON, SIXTY, SIXTY)
        desk.do(("lead", four), ("put", "x", random_four(draw, HAMILTON, SIXTY, SIXTY)), ("times", "y", "x", "x"), ("times", "y", "y", "y"))
        self.assertTrue(desk.is_true(("greatest", "best")) and desk.is_true(("led", "i", "j")))
        self.assertGreater(max(map(abs, desk["y"].entries)), LONG)
        desk.do(("put", "z", desk["y"]), ("lead", four.inverse()))
        self.assertEqual(desk["best"], HURWITZ)


if __name__ == "__main__":
    unittest.main()
