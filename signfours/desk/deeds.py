"""What can be done with the things of a desk."""

from signfours.base.ratios import Ratio
from signfours.desk.sayings import is_name, missing
from signfours.errors import Refused, UnknownName
from signfours.four.fours import Four, is_four_of
from signfours.four.leading import turned
from signfours.order.lattices import Lattice

# What stands behind each word.
PARTS = {
    "put": ("name", "thing"), "take": ("name",), "scale": ("name", "ratio"), "lead": ("four",),
    "times": ("name", "name", "name"), "join": ("name", "name", "name"), "meet": ("name", "name", "name"),
}


def is_deed(algebra, value):
    """Whether the value is a deed for things of an algebra."""
    if not isinstance(value, tuple) or not value or not isinstance(value[0], str) or value[0] not in PARTS:
        return False
    kinds = PARTS[value[0]]
    if len(value) != 1 + len(kinds):
        return False
    return all([is_part(algebra, kind, part) for kind, part in zip(kinds, value[1:])])


def is_part(algebra, kind, value):
    """Whether the value is of a kind that a deed asks for."""
    if kind == "name":
        return is_name(value)
    if kind == "ratio":
        return isinstance(value, Ratio) and bool(value)
    if kind == "four":
        return is_four_of(algebra, value) and bool(value.norm)
    return is_four_of(algebra, value) or (isinstance(value, Lattice) and value.algebra == algebra)


def things_behind(things, deeds):
    """The dict of the things, with ascending names, behind all deeds."""
    made = dict(things)
    for at, deed in enumerate(deeds):
        wanted = missing(made, used_names(deed))
        if wanted:
            raise UnknownName(wanted[0])
        if not are_of_kinds(made, deed):
            raise Refused(("kinds", at))
        made = done(made, deed)
    return {name: made[name] for name in sorted(list(made))}


def used_names(deed):
    """The names that have to stand for something ahead of a deed."""
    if deed[0] in ("take", "scale"):
        return deed[1:2]
    return deed[2:] if deed[0] in ("times", "join", "meet") else ()


def are_of_kinds(things, deed):
    """Whether the things of a deed are of the kinds that it needs."""
    if deed[0] not in ("times", "join", "meet"):
        return True
    one, other = things[deed[2]], things[deed[3]]
    if deed[0] == "times" and isinstance(one, Four):
        return isinstance(other, Four)
    return isinstance(one, Lattice) and isinstance(other, Lattice)


def done(things, deed):
    """The dict of the things behind a deed that can be done."""
    word = deed[0]
    if word == "lead":
        return {name: led_thing(deed[1], things[name]) for name in things}
    if word == "take":
        return {name: things[name] for name in things if name != deed[1]}
    return {**things, deed[1]: made_thing(things, deed)}


def made_thing(things, deed):
    """The thing for which the name of a deed stands behind it."""
    word = deed[0]
    if word == "put":
        return deed[2]
    if word == "scale":
        return things[deed[1]].scaled(deed[2])
    one, other = things[deed[2]], things[deed[3]]
    if word == "times":
        return one * other
    return one + other if word == "join" else one & other


def led_thing(four, thing):
    """The thing to which a four leads a thing."""
    if isinstance(thing, Four):
        return turned(four, thing)
    return thing.ahead(four).by(four.inverse())
