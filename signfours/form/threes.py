"""Forms in three unknowns, and those that the turnings of an order have."""

from signfours.base.checks import is_integer, is_passed, is_triple
from signfours.errors import InvalidForm, InvalidFour, InvalidNumber, InvalidOperation, InvalidOrder, TooMany
from signfours.form.triples import (
    counts_of, determinant, discriminant_at, form_on, is_above_zero, lead_of, short_vectors, summed, value_at,
)
from signfours.four.fours import Four, is_fours_of, made_four, over_one_bottom
from signfours.order.forms import pairings
from signfours.order.grids import grid_of
from signfours.order.orders import discriminant_of, is_order
from signfours.order.shorts import short_rows

MAX_VALUE = 1000
MAX_ENTRY = 1000000
MAX_TURNED = 1000


def form_discriminant(form):
    """The discriminant of a form."""
    check_form(form)
    return discriminant_at(form)


def is_form(value):
    """Whether the value is a form in three unknowns."""
    if not isinstance(value, tuple) or len(value) != 6:
        return False
    return all([is_integer(part) and abs(part) <= MAX_ENTRY for part in value]) and is_above_zero(value)


def form_value(form, x, y, z):
    """The value of a form at three integers."""
    check_form(form)
    for part in (x, y, z):
        if not is_passed(part):
            raise InvalidNumber(part)
    return value_at(form, (x, y, z))


def value_counts(form, most):
    """The tuple of the numbers of the triples with the values from 0 to a bound."""
    check_form(form)
    if not is_integer(most) or not 0 <= most <= MAX_VALUE:
        raise InvalidNumber(most)
    return tuple(counts_of(form, most))


def turning_basis(order):
    """Any turning basis of an order whose form has integers of a size of at most 1000000."""
    check_definite_order(order)
    if discriminant_of(order) > MAX_TURNED:
        raise TooMany(MAX_TURNED)
    algebra = order.algebra
    rows, bottom = turning_grid(order)
    # The turnings and 1 make no integers with one another, so no short row mixes them.
    made = [row for row in short_rows(algebra, rows) if row[0] == 0]
    vectors = short_vectors(form_of_rows(algebra, made, bottom))
    parts = [summed(vector, [row[1:] for row in made]) for vector in vectors]
    return tuple([made_four(algebra, (0, x, y, z), bottom) for x, y, z in parts])


def is_turning_basis(order, value):
    """Whether the value is a triple of fours whose sums of integer multiples are just the turnings."""
    check_definite_order(order)
    if not is_fours_of(order.algebra, value, 3, 3) or not all([four.trace == 0 for four in value]):
        return False
    vectors, bottom = over_one_bottom(value)
    return grid_of(vectors + [(bottom, 0, 0, 0)], bottom) == turning_grid(order)


def form_of(fours):
    """The form of a triple of fours of the trace 0 of a definite algebra."""
    if not is_free_triple(fours):
        raise InvalidFour("no triple of fours of the trace 0 of a definite algebra that do not depend on one another")
    vectors, bottom = over_one_bottom(fours)
    made = form_of_rows(fours[0].algebra, vectors, bottom)
    if made is None or not is_form(made):
        raise InvalidOperation("the norms of the sums make no form")
    return made


def three_form(order):
    """The form of any turning basis of an order."""
    return form_of(turning_basis(order))


def are_forms_alike(one, other):
    """Whether there is a lead from one form to the other."""
    return form_lead(one, other) is not None


def form_lead(one, other):
    """Any lead from the first form to the second one, or None."""
    check_form(one)
    check_form(other)
    if max(discriminant_at(one), discriminant_at(other)) > MAX_ENTRY:
        raise TooMany(MAX_ENTRY)
    if discriminant_at(one) != discriminant_at(other):
        return None
    return lead_of(one, other)


def is_form_lead(one, other, value):
    """Whether the value is a lead from the first form to the second one."""
    check_form(one)
    check_form(other)
    if not isinstance(value, tuple) or len(value) != 3 or not all([is_triple(row) for row in value]):
        return False
    return determinant(value) == 1 and form_on(one, list(zip(*value))) == other


def turning_grid(order):
    """The grid of the sums of turnings of an order and of integers."""
    vectors = [(0, 2 * x, 2 * y, 2 * z) for _, x, y, z in order.rows]
    return grid_of(vectors + [(order.bottom, 0, 0, 0)], order.bottom)


def form_of_rows(algebra, rows, bottom):
    """The norms of the sums of multiples of three rows over a bottom, or None if not all are integers."""
    table = pairings(algebra, rows)
    square = bottom * bottom
    doubled = [table[at][at] // 2 for at in range(3)] + [table[1][2], table[0][2], table[0][1]]
    if any([entry % square != 0 for entry in doubled]):
        return None
    return tuple([entry // square for entry in doubled])


def is_free_triple(value):
    """Whether the value is a triple of fours of the trace 0 of a definite algebra, none a sum of the others."""
    if not isinstance(value, tuple) or len(value) != 3 or not isinstance(value[0], Four):
        return False
    algebra = value[0].algebra
    if not algebra.is_definite or not is_fours_of(algebra, value, 3, 3):
        return False
    return all([four.trace == 0 for four in value]) and determinant([four.entries[1:] for four in value]) != 0


def check_form(value):
    """Refuses what is no form."""
    if not is_form(value):
        raise InvalidForm("no form in three unknowns")


def check_definite_order(value):
    """Refuses what is no order of a definite algebra."""
    if not is_order(value) or not value.algebra.is_definite:
        raise InvalidOrder("no order of a definite algebra")
