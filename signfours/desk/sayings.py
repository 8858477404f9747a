"""What can be told of the things of a desk: the forms of names and sayings, and whether sayings are true."""

from signfours.base.ratios import Ratio
from signfours.four.fours import Four
from signfours.four.leading import leading
from signfours.order.lattices import Lattice
from signfours.order.orders import is_greatest, is_order

MAX_NAME = 8
# How many names stand behind each word.
NAMED = {"order": 1, "greatest": 1, "member": 2, "within": 2, "equal": 2, "norm": 1, "led": 2}


def is_name(value):
    """Whether the value is a string of one to eight letters a to z."""
    if not isinstance(value, str) or not 1 <= len(value) <= MAX_NAME:
        return False
    return all(["a" <= letter <= "z" for letter in value])


def is_saying(value):
    """Whether the value has the form of a saying."""
    if not isinstance(value, tuple) or not value or not isinstance(value[0], str) or value[0] not in NAMED:
        return False
    names = named(value)
    if len(names) != NAMED[value[0]] or not all([is_name(name) for name in names]):
        return False
    if value[0] == "norm":
        return len(value) == 3 and isinstance(value[2], Ratio)
    return len(value) == 1 + len(names)


def named(saying):
    """The names in a saying, which begins with one of the words."""
    return saying[1:1 + NAMED[saying[0]]]


def missing(things, names):
    """The list of the names that stand for nothing."""
    return [name for name in names if name not in things]


def is_true_of(things, saying):
    """Whether a saying is true of things that have all its names."""
    word, thing, last = saying[0], things[saying[1]], saying[-1]
    if word == "order":
        return is_order(thing)
    if word == "greatest":
        return is_order(thing) and is_greatest(thing)
    if word == "norm":
        return norm_of_thing(thing) == last
    other = things[last]
    if word == "equal":
        return thing == other
    if word == "led":
        return isinstance(thing, Four) and isinstance(other, Four) and leading(thing, other) is not None
    if not isinstance(other, Lattice):
        return False
    if word == "member":
        return thing in other
    return isinstance(thing, Lattice) and other.holds(thing)


def norm_of_thing(thing):
    """The norm of a four or a lattice."""
    return thing.norm if isinstance(thing, Four) else thing.lattice_norm()
