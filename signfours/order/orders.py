"""Orders, what shows that a lattice is none, and greatest orders."""

from signfours.base.numbers import prime_powers, root_modulo
from signfours.errors import InvalidOrder, TooMany
from signfours.four.fours import check_algebra
from signfours.order.forms import radical_modulo, sub_grid, weight_at, weight_table
from signfours.order.grids import coordinates, is_closed, left_grid, volume
from signfours.order.lattices import Lattice, check_lattice, grid_in, made_lattice

MAX_DISCRIMINANT = 10 ** 6
ONE = (1, 0, 0, 0)


def plain_order(algebra):
    """The order of all fours with integer entries."""
    check_algebra(algebra)
    return Lattice(algebra, algebra.basis())


def is_order(value):
    """Whether the value is a lattice that has 1 and the products of its members."""
    if not isinstance(value, Lattice):
        return False
    grid = grid_in(value)
    return coordinates(grid, ONE, 1) is not None and is_closed(value.algebra, grid, grid, grid)


def outside(lattice):
    """What shows that the lattice is no order, or None."""
    check_lattice(lattice)
    if coordinates(grid_in(lattice), ONE, 1) is None:
        return ("one",)
    basis = lattice.basis()
    for one in basis:
        for other in basis:
            if one * other not in lattice:
                return ("product", one, other)
    return None


def is_outside(lattice, value):
    """Whether the value shows that the lattice is no order, or is None for an order."""
    check_lattice(lattice)
    if value is None:
        return is_order(lattice)
    if not isinstance(value, tuple) or not value or not isinstance(value[0], str):
        return False
    if value[0] == "one":
        return len(value) == 1 and coordinates(grid_in(lattice), ONE, 1) is None
    if value[0] != "product" or len(value) != 3:
        return False
    return value[1] in lattice and value[2] in lattice and value[1] * value[2] not in lattice


def order_discriminant(order):
    """The discriminant of an order."""
    check_order(order)
    return discriminant_of(order)


def is_greatest(order):
    """Whether no other order holds the order."""
    check_order(order)
    return discriminant_of(order) == order.algebra.discriminant


def greater(order):
    """Any other order that holds the order, or None if it is greatest."""
    check_order(order)
    check_small(order)
    return greater_order(order)


def greatest_over(order):
    """Any greatest order that holds the order."""
    check_order(order)
    check_small(order)
    while discriminant_of(order) != order.algebra.discriminant:
        order = greater_order(order)
    return order


def check_order(value):
    """Refuses what is no order."""
    if not is_order(value):
        raise InvalidOrder("no order")


def check_greatest(value):
    """Refuses what is no greatest order."""
    if not is_order(value) or discriminant_of(value) != value.algebra.discriminant:
        raise InvalidOrder("no greatest order")


def check_small(order):
    """Refuses an order with a greater discriminant."""
    if discriminant_of(order) > MAX_DISCRIMINANT:
        raise TooMany(MAX_DISCRIMINANT)


def discriminant_of(order):
    """The discriminant of an order; that of the plain order is 4 times the size of a b."""
    plain = 4 * abs(order.algebra.a * order.algebra.b)
    square = order.bottom * order.bottom
    return plain * volume(grid_in(order)) // (square * square)


def greater_order(order):
    """An order that holds the order and another one, or None if the order is greatest."""
    algebra, grid = order.algebra, grid_in(order)
    left = discriminant_of(order) // algebra.discriminant
    if left == 1:
        return None
    prime = min(list(prime_powers(left)))
    table = weight_table(algebra, order.rows)
    points = radical_modulo(table, prime)
    # The fours that are nilpotent modulo the prime are an ideal whose left order holds the order.
    found = left_grid(algebra, sub_grid(grid, points, prime))
    if found == grid:
        # Then two fields of rests are left modulo this ideal, and a root of one of them, but not
        # of the other one, tells one of the two ideals whose left orders are greatest here.
        found = left_grid(algebra, sub_grid(grid, points + [split_point(order, table, prime)], prime))
    return made_lattice(algebra, found)


def split_point(order, table, prime):
    """The multiples of the rows for a four x - r; x has two rests modulo the prime, r is one of them."""
    one = coordinates(grid_in(order), ONE, 1)
    for at in range(4):
        point = [1 if to == at else 0 for to in range(4)]
        weight = weight_at(table, point)
        trace = weight_at(table, [entry + there for entry, there in zip(point, one)]) - weight - 1
        spread = trace * trace - 4 * weight
        if (trace if prime == 2 else spread) % prime != 0:
            return [entry - rest_of(trace, spread, prime) * there for entry, there in zip(point, one)]
    return None


def rest_of(trace, spread, prime):
    """A root of the equation of a four with two rests modulo the prime."""
    if prime == 2:
        return 0
    half = (prime + 1) // 2
    return (trace + root_modulo(spread, prime)) * half % prime
