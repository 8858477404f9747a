"""The fours of a lattice of a definite algebra, by their weights."""

from signfours.base.checks import is_integer
from signfours.errors import InvalidNumber, Refused, TooMany
from signfours.four.fours import made_four
from signfours.order.forms import combined
from signfours.order.lattices import check_lattice
from signfours.order.orders import check_order
from signfours.order.shorts import point_counts, points_of, short_form

MAX_WEIGHT = 200
MOST_FOURS = 10000


def fours_of(lattice, many):
    """The ascending tuple of all fours of the lattice with a weight."""
    check_lattice(lattice)
    check_weight(many)
    check_definite(lattice)
    rows, table = short_form(lattice.algebra, lattice.rows)
    points = points_of(table, many)
    if len(points) > MOST_FOURS:
        raise TooMany(MOST_FOURS)
    return fours_at(lattice, rows, points)


def count_fours(lattice, many):
    """How many fours of the lattice have a weight."""
    check_lattice(lattice)
    check_weight(many)
    check_definite(lattice)
    return len(points_of(short_form(lattice.algebra, lattice.rows)[1], many))


def counts_to(lattice, most):
    """The tuple of the numbers of the fours with the weights from 0 to a bound."""
    check_lattice(lattice)
    check_weight(most)
    check_definite(lattice)
    return tuple(point_counts(short_form(lattice.algebra, lattice.rows)[1], most))


def least_weight(lattice):
    """The least weight of a four of the lattice other than 0."""
    check_lattice(lattice)
    check_definite(lattice)
    table = short_form(lattice.algebra, lattice.rows)[1]
    most = min(MAX_WEIGHT, min([table[at][at] // 2 for at in range(4)]))
    counts = point_counts(table, most)
    found = [weight for weight in range(1, most + 1) if counts[weight] > 0]
    if not found:
        raise TooMany(MAX_WEIGHT)
    return found[0]


def units(order):
    """The ascending tuple of all fours of the norm 1 of an order."""
    check_order(order)
    check_definite(order)
    rows, table = short_form(order.algebra, order.rows)
    return fours_at(order, rows, points_of(table, 1))


def fours_at(lattice, rows, points):
    """The ascending tuple of the fours of a lattice at some points of its short rows."""
    made = sorted([combined(point, rows) for point in points])
    return tuple([made_four(lattice.algebra, entries, lattice.bottom) for entries in made])


def check_weight(value):
    """Refuses what is no integer from 0 to 200."""
    if not is_integer(value) or not 0 <= value <= MAX_WEIGHT:
        raise InvalidNumber(value)


def check_definite(lattice):
    """Refuses lattices of algebras that are not definite."""
    if not lattice.algebra.is_definite:
        raise Refused(("definite",))
