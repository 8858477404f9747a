"""Ideals of greatest orders."""

from math import gcd

from signfours.base.checks import is_passed
from signfours.base.numbers import check_prime, prime_powers
from signfours.errors import InvalidFour, InvalidIdeal, InvalidNumber, InvalidOperation, TooMany
from signfours.four.fours import is_four_of, is_fours_of, made_four, over_one_bottom, product_entries
from signfours.ideal.steps import between_grid, member_of_weight, norm_parts, steps_within
from signfours.order.grids import coordinates, grid_of, is_closed, left_grid, mates_grid, scaled_grid
from signfours.order.lattices import Lattice, grid_in, made_lattice
from signfours.order.orders import check_greatest, discriminant_of

MAX_STEP = 13
MAX_NORM = 30
MOST_FOURS = 10


def is_ideal(value):
    """Whether the value is a lattice whose left order is greatest."""
    if not isinstance(value, Lattice):
        return False
    return discriminant_of(value.left_order()) == value.algebra.discriminant


def ideal_of(order, fours):
    """The lattice of all sums of products x * y with x in the order and y among some fours."""
    check_greatest(order)
    if not is_fours_of(order.algebra, fours, 1, MOST_FOURS):
        raise InvalidFour("no tuple of 1 to 10 fours of the algebra of the order")
    vectors, bottom = over_one_bottom(fours)
    products = [product_entries(order.algebra, row, vector) for row in order.rows for vector in vectors]
    grid = grid_of(products, order.bottom * bottom)
    if grid is None:
        raise InvalidOperation("the products do not span the algebra")
    return made_lattice(order.algebra, grid)


def inverse(ideal):
    """The lattice of the mates of the members, divided by the norm."""
    check_ideal(ideal)
    top, bottom = norm_parts(ideal.algebra, grid_in(ideal))
    return made_lattice(ideal.algebra, scaled_grid(mates_grid(grid_in(ideal)), bottom, top))


def neighbours(order, prime):
    """The tuple of all ideals of the order with the norm `prime`, ascending by their plain rows."""
    check_greatest(order)
    check_prime(prime)
    if prime > MAX_STEP:
        raise TooMany(MAX_STEP)
    grid = grid_in(order)
    found = sorted(steps_within(order.algebra, grid, grid, prime))
    return tuple([made_lattice(order.algebra, step) for step in found])


def ideals_of(order, norm):
    """The tuple of all ideals of the order with a norm, ascending by the pairs of bottom and plain rows."""
    check_greatest(order)
    if not is_passed(norm) or norm < 1:
        raise InvalidNumber(norm)
    if norm > MAX_NORM:
        raise TooMany(MAX_NORM)
    grid = grid_in(order)
    found = [grid]
    for prime, many in prime_powers(norm).items():
        for _ in range(many):
            # Ideals of norms with a common divisor can lie within several ones.
            steps = [step for one in found for step in steps_within(order.algebra, grid, one, prime)]
            found = list({step: True for step in steps})
    pairs = sorted([(bottom, rows) for rows, bottom in found])
    return tuple([made_lattice(order.algebra, (rows, bottom)) for bottom, rows in pairs])


def is_primitive_in(ideal, other):
    """Whether no integer m of at least 2 has the other ideal within m times the ideal."""
    check_ideals(ideal, other)
    found = [coordinates(grid_in(ideal), row, other.bottom) for row in other.rows]
    if None in found:
        raise InvalidOperation("the first ideal does not hold the second one")
    common = 0
    for point in found:
        common = gcd(common, point[0], point[1], point[2], point[3])
    return common == 1


def generator(ideal):
    """Any four that makes the ideal with its left order, or None."""
    check_ideal(ideal)
    check_definite(ideal)
    return four_of_weight(ideal.algebra, grid_in(ideal))


def is_generator(ideal, value):
    """Whether the value is a four that makes the ideal with its left order."""
    check_ideal(ideal)
    check_definite(ideal)
    return takes(ideal.left_order(), ideal, value)


def between(one, other):
    """Any four x with `one.by(x) == other`, or None."""
    check_ideals(one, other)
    check_definite(one)
    return four_of_weight(one.algebra, between_grid(one.algebra, grid_in(one), grid_in(other)))


def is_between(one, other, value):
    """Whether the value is a four x with `one.by(x) == other`."""
    check_ideals(one, other)
    check_definite(one)
    return takes(one, other, value)


def are_one_class(one, other):
    """Whether two ideals with one left order are of one class."""
    return between(one, other) is not None


def four_of_weight(algebra, grid):
    """A four of the weight 1 among the members, or None."""
    found = member_of_weight(algebra, grid, 1)
    return None if found is None else made_four(algebra, found[0], found[1])


def takes(one, other, value):
    """Whether the value is a four by which the first lattice becomes the second one."""
    return is_four_of(one.algebra, value) and bool(value.norm) and one.by(value) == other


def check_ideal(value):
    """Refuses what is no ideal."""
    if not is_ideal(value):
        raise InvalidIdeal("no ideal")


def check_ideals(one, other):
    """Refuses what are no two ideals with one left order."""
    check_ideal(one)
    order = left_grid(one.algebra, grid_in(one))
    if not is_ideal_of(one.algebra, order, other):
        raise InvalidIdeal("no ideal with the left order of the first one")


def is_ideal_of(algebra, order, value):
    """Whether the value is an ideal whose left order is a greatest order, told as a grid."""
    if not isinstance(value, Lattice) or value.algebra != algebra:
        return False
    return is_closed(algebra, order, grid_in(value), grid_in(value))


def check_definite(lattice):
    """Refuses lattices of algebras that are not definite."""
    if not lattice.algebra.is_definite:
        raise InvalidOperation("the algebra is not definite")
