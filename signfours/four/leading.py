"""Fours that lead one four to another one, and the turns that they tell."""

from math import gcd, lcm

from signfours.base.ratios import Ratio, made_ratio
from signfours.errors import InvalidOperation, Refused
from signfours.four.fours import Four, check_algebra, check_four, check_fours, made_four


def leading(one, other):
    """Any four of a norm other than 0 that leads the first one to the second one, or None."""
    check_fours(one, other)
    if one.is_ratio or other.is_ratio:
        return one.algebra.basis()[0] if one == other else None
    if one.trace != other.trace or one.norm != other.norm:
        return None
    # The fours other * w - w * mate(one) are all z with z * one == other * z. The norm is not 0
    # on all of them, so it is not 0 on one of those of a basis or on a sum of two of these.
    leads = [other * unit - unit * one.mate() for unit in one.algebra.basis()]
    sums = [leads[at] + leads[to] for at in range(4) for to in range(at)]
    found = [lead for lead in leads + sums if lead.norm]
    return primitive(found[0])


def is_leading(one, other, value):
    """Whether the value is a four that leads the first one to the second one."""
    check_fours(one, other)
    if not isinstance(value, Four) or value.algebra != one.algebra or not value.norm:
        return False
    return value * one == other * value


def turned(one, other):
    """The four to which `one` leads `other`."""
    check_fours(one, other)
    if not one.norm:
        raise Refused(("norm",))
    return one * other * one.inverse()


def turn_of(four):
    """The table whose columns are the entries of what the four leads i, j and k to."""
    check_four(four)
    if not four.norm:
        raise Refused(("norm",))
    columns = [turned(four, unit) for unit in four.algebra.basis()[1:]]
    return tuple([tuple([entry_of(column, at) for column in columns]) for at in range(1, 4)])


def is_turn(algebra, value):
    """Whether the value is a table of ratios that keeps the norms and has the determinant 1."""
    check_algebra(algebra)
    if not is_table(value):
        return False
    # The squares and the mixed products say that the norms are kept. Then k is taken to the
    # product of the images of i and j or to its opposite, by the sign of the determinant.
    first, second, third = images_of(algebra, value)
    one = algebra.basis()[0]
    return (
        first * first == one.scaled(algebra.a) and second * second == one.scaled(algebra.b)
        and first * second == third
    )


def four_of_turn(algebra, table):
    """Any four of which the table is the turn."""
    if not is_turn(algebra, table):
        raise InvalidOperation("no turn of the algebra")
    units = algebra.basis()
    images = [units[0]] + images_of(algebra, table)
    # Each sum of image * w / unit leads all units to their images, and not all sums are 0.
    sums = [led_sum(images, units, start) for start in units]
    found = [led for led in sums if led]
    return primitive(found[0])


def led_sum(images, units, start):
    """The sum of image * start / unit over all units and their images."""
    found = start - start
    for image, unit in zip(images, units):
        found = found + image * start * unit.inverse()
    return found


def entry_of(four, at):
    """The entry of a four at an index, a ratio."""
    return made_ratio(four.entries[at], four.bottom)


def is_table(value):
    """Whether the value is a tuple of three tuples of three ratios."""
    return isinstance(value, tuple) and len(value) == 3 and all([is_row(row) for row in value])


def is_row(value):
    """Whether the value is a tuple of three ratios."""
    if not isinstance(value, tuple) or len(value) != 3:
        return False
    return all([isinstance(entry, Ratio) for entry in value])


def images_of(algebra, table):
    """The list of the fours of the trace 0 whose entries are the columns of the table."""
    return [four_of_column(algebra, [row[at] for row in table]) for at in range(3)]


def four_of_column(algebra, column):
    """The four of the trace 0 with three ratios as its other entries."""
    bottom = lcm(column[0].bottom, column[1].bottom, column[2].bottom)
    entries = [entry.top * (bottom // entry.bottom) for entry in column]
    return made_four(algebra, (0, entries[0], entries[1], entries[2]), bottom)


def primitive(four):
    """The four other than 0, multiplied so that its entries are integers without a common divisor."""
    w, x, y, z = four.entries
    common = gcd(w, x, y, z)
    return made_four(four.algebra, (w // common, x // common, y // common, z // common), 1)
