"""Grids: four plain rows of integers over a bottom, which tell a lattice.

A grid is a pair (rows, bottom) of a tuple of four tuples of four integers and an integer above 0,
in lowest terms, as [5.1] of the document tells it.
"""

from math import gcd

from signfours.four.fours import product_entries

UNITS = ((1, 0, 0, 0), (0, 1, 0, 0), (0, 0, 1, 0), (0, 0, 0, 1))


def plain_rows(vectors):
    """The plain rows of all sums of integer multiples of the vectors, or None if they do not span."""
    base = [None, None, None, None]
    for vector in vectors:
        rest = vector
        for at in range(4):
            if rest[at] == 0:
                continue
            if base[at] is None:
                base[at] = raised(rest, at)
                break
            pivot, rest = divided_pair(rest, base[at], at)
            base[at] = lessened(pivot, base, at)
            rest = lessened(rest, base, at)
    if None in base:
        return None
    return tuple([lessened(base[at], base, at) for at in range(4)])


def divided_pair(one, other, at):
    """Two vectors with the same sums of multiples as two others; the second one has 0 at the index.

    The first one has an entry above 0 there, as the second one of the others has.
    """
    while other[at] != 0:
        one, other = other, less(one, one[at] // other[at], other)
    return one, other


def raised(vector, at):
    """The vector or its opposite, so that its entry at an index is above 0."""
    return vector if vector[at] > 0 else less((0, 0, 0, 0), 1, vector)


def lessened(vector, base, at):
    """The vector less multiples of the rows behind an index, so that its entries are small."""
    for to in range(at + 1, 4):
        row = base[to]
        if row is not None and not 0 <= vector[to] < row[to]:
            vector = less(vector, vector[to] // row[to], row)
    return vector


def less(vector, many, other):
    """A vector less a multiple of another one."""
    w, x, y, z = vector
    s, t, u, v = other
    return (w - many * s, x - many * t, y - many * u, z - many * v)


def grid_of(vectors, bottom):
    """The grid of the sums of multiples of the vectors over a bottom, or None if they do not span."""
    rows = plain_rows(vectors)
    return None if rows is None else lowest_grid(rows, bottom)


def lowest_grid(rows, bottom):
    """The plain rows and the bottom in lowest terms."""
    common = bottom
    for row in rows:
        common = gcd(common, row[0], row[1], row[2], row[3])
    if common == 1:
        return rows, bottom
    return tuple([tuple([entry // common for entry in row]) for row in rows]), bottom // common


def scaled_grid(grid, top, bottom):
    """The grid of the members multiplied by a fraction above 0."""
    rows, own = grid
    return lowest_grid(tuple([tuple([entry * top for entry in row]) for row in rows]), own * bottom)


def volume(grid):
    """The product of the diagonal."""
    rows = grid[0]
    return rows[0][0] * rows[1][1] * rows[2][2] * rows[3][3]


def sum_grid(one, other):
    """The grid of the sums of members of two grids."""
    vectors = [tuple([entry * other[1] for entry in row]) for row in one[0]]
    more = [tuple([entry * one[1] for entry in row]) for row in other[0]]
    return grid_of(vectors + more, one[1] * other[1])


def meet_grid(one, other):
    """The grid of the common members of two grids."""
    # What makes integers with all common members are the sums of what does with either grid.
    return dual_grid(sum_grid(dual_grid(one), dual_grid(other)))


def dual_grid(grid):
    """The grid of all vectors that make integers with all members, entry by entry and added up."""
    rows, bottom = grid
    inverse = adjugate(rows)
    columns = list(zip(*inverse))
    return grid_of([tuple([entry * bottom for entry in column]) for column in columns], volume(grid))


def adjugate(rows):
    """The rows of the inverse of four plain rows, multiplied by the product of the diagonal."""
    p, a, b, c = rows[0]
    q, d, e = rows[1][1:]
    r, f = rows[2][2:]
    s = rows[3][3]
    return (
        (q * r * s, -a * r * s, (a * d - b * q) * s, a * e * r - a * d * f + b * q * f - c * q * r),
        (0, p * r * s, -p * d * s, p * (d * f - e * r)),
        (0, 0, p * q * s, -p * q * f),
        (0, 0, 0, p * q * r),
    )


def product_grid(algebra, one, other):
    """The grid of the sums of products of members of two grids."""
    vectors = [product_entries(algebra, row, to) for row in one[0] for to in other[0]]
    return grid_of(vectors, one[1] * other[1])


def by_grid(algebra, grid, entries, bottom):
    """The grid of the members multiplied by a four, told by its entries and its bottom."""
    return grid_of([product_entries(algebra, row, entries) for row in grid[0]], grid[1] * bottom)


def ahead_grid(algebra, grid, entries, bottom):
    """The grid of the products of a four, told by its entries and its bottom, and of members."""
    return grid_of([product_entries(algebra, entries, row) for row in grid[0]], grid[1] * bottom)


def mates_grid(grid):
    """The grid of the mates of the members."""
    rows, bottom = grid
    return plain_rows([(w, -x, -y, -z) for w, x, y, z in rows]), bottom


def left_grid(algebra, grid):
    """The grid of all fours x for which x * y is a member for all members y."""
    return kept_grid(grid, [
        [product_entries(algebra, unit, row) for unit in UNITS] for row in grid[0]
    ])


def right_grid(algebra, grid):
    """The grid of all fours x for which y * x is a member for all members y."""
    return kept_grid(grid, [
        [product_entries(algebra, row, unit) for unit in UNITS] for row in grid[0]
    ])


def kept_grid(grid, tables):
    """The grid of the vectors that each table, divided by the bottom, takes to members."""
    # A vector is a member exactly if it makes integers with the columns of the inverse of the rows.
    inverse = adjugate(grid[0])
    columns = list(zip(*inverse))
    vectors = [
        tuple([dotted(row, column) for row in table]) for table in tables for column in columns
    ]
    return dual_grid(grid_of(vectors, volume(grid)))


def dotted(one, other):
    """The sum of the products of the entries."""
    return one[0] * other[0] + one[1] * other[1] + one[2] * other[2] + one[3] * other[3]


def coordinates(grid, entries, bottom):
    """The integers by which the basis is multiplied to make the entries over the bottom, or None."""
    rows, own = grid
    rest = tuple([entry * own for entry in entries])
    found = []
    for at in range(4):
        many, left = divmod(rest[at], rows[at][at] * bottom)
        if left != 0:
            return None
        found.append(many)
        rest = less(rest, many * bottom, rows[at])
    return found


def has_all(grid, other):
    """Whether all members of another grid are members of the grid."""
    return all([coordinates(grid, row, other[1]) is not None for row in other[0]])


def is_closed(algebra, one, other, grid):
    """Whether all products of members of two grids are members of a third one."""
    bottom = one[1] * other[1]
    for row in one[0]:
        for to in other[0]:
            if coordinates(grid, product_entries(algebra, row, to), bottom) is None:
                return False
    return True
