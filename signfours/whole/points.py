"""Points of a prime, classes of whole fours of this norm, and the orders that whole fours make of them."""

from signfours.base.numbers import check_prime
from signfours.errors import InvalidNumber, InvalidOperation, TooMany
from signfours.four.fours import product_entries
from signfours.order.norms import fours_of
from signfours.whole.hurwitz import check_whole, whole_lattice
from signfours.whole.parts import common_behind, doubled, nearest_quotient, unit_fours

MAX_POINTS = 100


def points_of(prime):
    """The ascending tuple of the fours that tell the points of an odd prime."""
    check_points_prime(prime)
    return tuple(point_table(prime)[0])


def exchange_order(four, prime):
    """The tuple that has at the index of each point the index of the point to which the four takes it."""
    check_whole(four)
    check_points_prime(prime)
    if four.norm.top % prime == 0:
        raise InvalidOperation("the prime divides the norm of the four")
    points, indices = point_table(prime)
    size = four.algebra.basis()[0].scaled(prime)
    # What is behind a product is told by the four modulo the prime.
    rest = four - nearest_quotient(four, size) * size
    return tuple([indices[doubled(common_behind(point * rest, size))] for point in points])


def point_table(prime):
    """The list of the fours that tell the points, and the dict from twice the entries of each four to its index."""
    points, indices = [], {}
    lattice = whole_lattice()
    units = [doubled(unit) for unit in unit_fours()]
    for four in fours_of(lattice, prime):
        own = doubled(four)
        if own not in indices:
            for unit in units:
                w, x, y, z = product_entries(lattice.algebra, unit, own)
                indices[(w // 2, x // 2, y // 2, z // 2)] = len(points)
            points.append(four)
    return points, indices


def check_points_prime(value):
    """Refuses what is no odd prime to 100."""
    check_prime(value)
    if value == 2:
        raise InvalidNumber(value)
    if value > MAX_POINTS:
        raise TooMany(MAX_POINTS)
