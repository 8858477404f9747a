"""The norm as a form in the four multiples of the rows of a lattice, and what it is modulo a prime."""

from math import gcd

from signfours.base.numbers import power_modulo
from signfours.order.grids import grid_of


def pairings(algebra, rows):
    """The table of the traces of e * mate(f) for the vectors e and f among the rows."""
    weights = (2, -2 * algebra.a, -2 * algebra.b, 2 * algebra.a * algebra.b)
    return [[paired(weights, one, other) for other in rows] for one in rows]


def paired(weights, one, other):
    """The sum of the products of the entries and of their weights."""
    return (
        weights[0] * one[0] * other[0] + weights[1] * one[1] * other[1]
        + weights[2] * one[2] * other[2] + weights[3] * one[3] * other[3]
    )


def content_of(table):
    """The greatest integer that divides the norms of all sums of multiples of the rows."""
    common = 0
    for at in range(4):
        common = gcd(common, table[at][at] // 2)
        for to in range(at):
            common = gcd(common, table[at][to])
    return common


def weight_table(algebra, rows):
    """The pairings of the rows, divided by their content: those of the weights."""
    table = pairings(algebra, rows)
    common = content_of(table)
    return [[entry // common for entry in row] for row in table]


def weight_at(table, point):
    """The weight of the sum of the rows, each one multiplied by an integer."""
    total = 0
    for one, row in zip(point, table):
        total = total + one * (
            row[0] * point[0] + row[1] * point[1] + row[2] * point[2] + row[3] * point[3]
        )
    return total // 2


def combined(point, rows):
    """The sum of the rows, each one multiplied by an integer."""
    one, other, third, last = rows
    c, d, e, f = point
    return (
        c * one[0] + d * other[0] + e * third[0] + f * last[0],
        c * one[1] + d * other[1] + e * third[1] + f * last[1],
        c * one[2] + d * other[2] + e * third[2] + f * last[2],
        c * one[3] + d * other[3] + e * third[3] + f * last[3],
    )


def sub_grid(grid, points, prime):
    """The grid of the sums of the rows with the points as their multiples modulo the prime."""
    rows, bottom = grid
    vectors = [combined(point, rows) for point in points]
    return grid_of([tuple([entry * prime for entry in row]) for row in rows] + vectors, bottom)


def echelon_modulo(vectors, prime):
    """The list of pairs (index, row) of the reduced rows that make all the vectors modulo the prime.

    Each row has 1 at its index, and the other rows have 0 there.
    """
    found = []
    for vector in vectors:
        rest = [entry % prime for entry in vector]
        for at, row in found:
            rest = less_modulo(rest, rest[at], row, prime)
        places = [at for at in range(4) if rest[at] != 0]
        if places:
            first = places[0]
            turn = power_modulo(rest[first], prime - 2, prime)
            rest = [entry * turn % prime for entry in rest]
            found = [(at, less_modulo(row, row[first], rest, prime)) for at, row in found] + [(first, rest)]
    return found


def less_modulo(row, many, other, prime):
    """A row less a multiple of another one, modulo the prime."""
    return [(entry - many * there) % prime for entry, there in zip(row, other)]


def kernel_modulo(table, prime):
    """The list of the vectors of a basis of those that make 0 with all rows of the table modulo the prime."""
    reduced = echelon_modulo(table, prime)
    taken = [at for at, row in reduced]
    found = []
    for free in range(4):
        if free not in taken:
            vector = [0, 0, 0, 0]
            vector[free] = 1
            for at, row in reduced:
                vector[at] = -row[free] % prime
            found.append(vector)
    return found


def radical_modulo(table, prime):
    """The list of a basis of the points modulo the prime whose weight and whose pairings are all 0."""
    kernel = kernel_modulo(table, prime)
    if prime > 2:
        return kernel
    # Half of a pairing is no rest by 2; but weights add up by 2 where the pairings are 0.
    even = [point for point in kernel if weight_at(table, point) % 2 == 0]
    odd = [point for point in kernel if weight_at(table, point) % 2 == 1]
    return even + [[one + other for one, other in zip(point, odd[0])] for point in odd[1:]]
