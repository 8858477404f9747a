"""Ideals as grids: the ones within another one, light ones, and what takes one to another one."""

from signfours.four.fours import made_four, mate_entries, product_entries
from signfours.order.forms import (
    combined, content_of, echelon_modulo, pairings, radical_modulo, sub_grid, weight_at, weight_table,
)
from signfours.order.grids import (
    UNITS, by_grid, coordinates, grid_of, mates_grid, product_grid, right_grid, scaled_grid,
)
from signfours.order.shorts import points_of, short_form


def steps_within(algebra, order, grid, prime):
    """The list of the grids of the ideals within an ideal whose norms are the prime times its norm.

    The order is the greatest left order of the ideal, as a grid.
    """
    table = weight_table(algebra, grid[0])
    if algebra.discriminant % prime == 0:
        return [sub_grid(grid, radical_modulo(table, prime), prime)]
    # Modulo the prime the ideal is the ring of all two by two tables. What the right order makes of
    # one table of norm 0 has, up to multiples, just one member in each ideal that is asked for.
    start = combined(null_point(table, prime), grid[0])
    right = right_grid(algebra, grid)
    found = [coordinates(grid, product_entries(algebra, start, row), grid[1] * right[1]) for row in right[0]]
    first, second = [row for at, row in echelon_modulo(found, prime)]
    points = [first] + [[many * one + other for one, other in zip(first, second)] for many in range(prime)]
    return [made_by(algebra, order, grid, combined(point, grid[0]), prime) for point in points]


def made_by(algebra, order, grid, vector, prime):
    """The grid of the sums of prime times the members of an ideal and of multiples of one of its vectors."""
    rows, bottom = order
    vectors = [tuple([entry * prime * bottom for entry in row]) for row in grid[0]]
    return grid_of(vectors + [product_entries(algebra, row, vector) for row in rows], bottom * grid[1])


def null_point(table, prime):
    """A point whose weight the prime divides, and that is not 0 modulo the prime."""
    for second in range(prime):
        for third in range(prime):
            if weight_at(table, (1, second, third, 0)) % prime == 0:
                return (1, second, third, 0)
    for third in range(prime):
        if weight_at(table, (0, 1, third, 0)) % prime == 0:
            return (0, 1, third, 0)
    # A form in three unknowns has a point modulo each prime.
    return (0, 0, 1, 0)


def norm_parts(algebra, grid):
    """The norm of the members of a grid, as a pair of integers."""
    return content_of(pairings(algebra, grid[0])), grid[1] * grid[1]


def between_grid(algebra, one, other):
    """The grid of all fours x for which the first ideal, multiplied by x, lies within the second one."""
    top, bottom = norm_parts(algebra, one)
    return scaled_grid(product_grid(algebra, mates_grid(one), other), bottom, top)


def member_of_weight(algebra, grid, many):
    """The entries and the bottom of a member of a weight, or None; the algebra is definite."""
    rows, table = short_form(algebra, grid[0])
    points = points_of(table, many)
    if not points:
        return None
    return combined(points[0], rows), grid[1]


def light_grid(algebra, grid):
    """The grid of an ideal of small norm in the class of an ideal of a definite algebra."""
    top, bottom = norm_parts(algebra, grid)
    found = by_grid(algebra, grid, mate_entries(short_row(algebra, grid)), grid[1])
    return scaled_grid(found, bottom, top)


def short_row(algebra, grid):
    """A row of a grid of a definite algebra whose norm is small."""
    rows, table = short_form(algebra, grid[0])
    least = min([table[at][at] for at in range(4)])
    return [row for at, row in enumerate(rows) if table[at][at] == least][0]


def small_turn(algebra, order):
    """A four that leads a greatest order of a definite algebra to one with small integers.

    The products of fours with integer entries and of members are an ideal with the order as its
    right order and one with small integers as its left order. The inverse of a short member takes
    it to a light ideal of the left order, and so the member leads the right order.
    """
    joint = product_grid(algebra, (UNITS, 1), order)
    return made_four(algebra, short_row(algebra, joint), joint[1])


def joint_table(algebra, one, other):
    """The table of the weights of the fours between two ideals."""
    return short_form(algebra, product_grid(algebra, mates_grid(one), other)[0])[1]


def unit_count(algebra, grid):
    """The number of the units of the right order of an ideal."""
    return len(points_of(joint_table(algebra, grid, grid), 1))
