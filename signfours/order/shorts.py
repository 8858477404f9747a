"""Short rows of lattices of definite algebras, and all points of a weight.

A point is a tuple of four integers, by which the rows are multiplied and then added up.
"""

from math import isqrt

from signfours.order.forms import content_of, pairings
from signfours.order.grids import less

# How many binary digits of great integers are looked at, and by how many they have to fall then.
WINDOW = 300
LEAST_FALL = 30


def short_rows(algebra, rows):
    """Rows with the same sums of multiples, of small norms."""
    made = list(rows)
    size = greatest_size(made)
    # Great integers fall quickly by what their first digits tell; the rows themselves tell the rest.
    while size > WINDOW:
        heads = [tuple([entry >> (size - WINDOW) for entry in row]) for row in made]
        made = reduced_rows(with_units(pairings(algebra, heads)), made)
        ahead, size = size, greatest_size(made)
        if size > ahead - LEAST_FALL:
            break
    return reduced_rows(pairings(algebra, made), made)


def greatest_size(rows):
    """The number of the binary digits of the greatest entry."""
    return max([abs(entry).bit_length() for row in rows for entry in row])


def with_units(table):
    """The pairings of rows to which the rows of the table of units are joined, so that none are dependent."""
    return [[entry + (1 if at == to else 0) for to, entry in enumerate(row)] for at, row in enumerate(table)]


def reduced_rows(table, rows):
    """Rows with the same sums of multiples, shortened as Lenstra, Lenstra and Lovasz do it.

    The table has the pairings by which they are shortened.
    """
    made = list(rows)
    lengths, bounds = projections(table)
    at = 1
    while at < 4:
        for to in range(at - 1, -1, -1):
            many = (2 * bounds[at][to] + lengths[to + 1]) // (2 * lengths[to + 1])
            if many != 0:
                made[at] = less(made[at], many, made[to])
                bounds = bounds[:at] + [nearer(bounds, lengths, at, to, many)] + bounds[at + 1:]
        bound = bounds[at][at - 1]
        # The next length would fall by more than a tenth.
        if 10 * (lengths[at - 1] * lengths[at + 1] + bound * bound) < 9 * lengths[at] * lengths[at]:
            made[at - 1], made[at] = made[at], made[at - 1]
            lengths, bounds = exchanged(lengths, bounds, at)
            at = max(1, at - 1)
        else:
            at = at + 1
    return made


def projections(table):
    """The determinants of the first pairings, and the pairings of each row with what is new in those ahead.

    All are integers: the determinants are factors of what is told.
    """
    lengths = [1]
    bounds = []
    for at in range(4):
        row = []
        for to in range(at + 1):
            told = table[at][to]
            for ahead in range(to):
                other = row[ahead] if to == at else bounds[to][ahead]
                told = (lengths[ahead + 1] * told - row[ahead] * other) // lengths[ahead]
            if to < at:
                row.append(told)
            else:
                lengths.append(told)
        bounds.append(row)
    return lengths, bounds


def nearer(bounds, lengths, at, to, many):
    """The bounds of a row less a multiple of the one at `to`."""
    ahead = [bound - many * other for bound, other in zip(bounds[at], bounds[to])]
    return ahead + [bounds[at][to] - many * lengths[to + 1]] + bounds[at][to + 1:]


def exchanged(lengths, bounds, at):
    """Lengths and bounds if the row at an index and the one ahead of it are exchanged."""
    bound = bounds[at][at - 1]
    length = (lengths[at - 1] * lengths[at + 1] + bound * bound) // lengths[at]
    made = bounds[:at - 1] + [bounds[at][:at - 1], bounds[at - 1] + [bound]]
    for row in bounds[at + 1:]:
        second = (lengths[at + 1] * row[at - 1] - bound * row[at]) // lengths[at]
        first = (length * row[at] + bound * second) // lengths[at + 1]
        made = made + [row[:at - 1] + [first, second] + row[at + 1:]]
    return lengths[:at] + [length] + lengths[at + 1:], made


def short_form(algebra, rows):
    """Short rows, and the table of the pairings of their weights."""
    made = short_rows(algebra, rows)
    table = pairings(algebra, made)
    common = content_of(table)
    return made, [[entry // common for entry in row] for row in table]


def lines_to(table, most):
    """The list of tuples (point, linear, constant, often) of the lines with points of weights up to a bound.

    The point has 0 ahead, and with c there its weight is half of the first pairing, multiplied by
    c c, plus linear c plus constant. Of two opposite lines one is told, and `often` is 2 for it.
    """
    # Twice a weight, multiplied by the first pairing of its table, is a square plus what the next
    # table makes of the other integers of the point, and so on; `bound` bounds all that is not square.
    second = complement(table, 1)
    third = complement(second, table[0][0])
    fourth = complement(third, second[0][0])
    first, inner, core, bare = table[0][0], second[0][0], third[0][0], fourth[0][0]
    bound = 2 * most
    found = []
    for last in range(isqrt(bound * core // bare) + 1):
        low, high = span(core, third[0][1] * last, inner * (bound * core - bare * last * last))
        for middle in range(0 if last == 0 else low, high + 1):
            worth = middle * (core * middle + 2 * third[0][1] * last) + third[1][1] * last * last
            shift = second[0][1] * middle + second[0][2] * last
            low, high = span(inner, shift, first * (bound * inner - worth))
            for near in range(0 if last == 0 and middle == 0 else low, high + 1):
                found.append(line_at(table, (0, near, middle, last)))
    return found


def complement(table, divisor):
    """The pairings of what is new in all rows but the first, multiplied by its pairing, with a divisor out."""
    first = table[0]
    return [
        [(first[0] * entry - row[0] * other) // divisor for entry, other in zip(row[1:], first[1:])]
        for row in table[1:]
    ]


def span(length, shift, room):
    """The least and the greatest integer c for which the square of length c + shift is not above the room."""
    if room < 0:
        return 0, -1
    root = isqrt(room)
    return -((root + shift) // length), (root - shift) // length


def line_at(table, point):
    """A line, told by its point with 0 ahead."""
    near, middle, last = point[1:]
    linear = table[0][1] * near + table[0][2] * middle + table[0][3] * last
    twice = near * (table[1][1] * near + 2 * table[1][2] * middle + 2 * table[1][3] * last)
    twice = twice + middle * (table[2][2] * middle + 2 * table[2][3] * last) + table[3][3] * last * last
    return (point, linear, twice // 2, 2 if near or middle or last else 1)


def points_of(table, many):
    """The list of all points with a weight."""
    length = table[0][0]
    found = []
    for point, linear, constant, often in lines_to(table, many):
        room = linear * linear - 2 * length * (constant - many)
        if room < 0:
            continue
        root = isqrt(room)
        if root * root != room:
            continue
        for sign in (1, -1) if root else (1,):
            head, rest = divmod(sign * root - linear, length)
            if rest == 0:
                found.append((head, point[1], point[2], point[3]))
                if often == 2:
                    found.append((-head, -point[1], -point[2], -point[3]))
    return found


def point_counts(table, most):
    """The list of the numbers of the points with the weights from 0 to a bound."""
    length = table[0][0]
    half = length // 2
    counts = [0] * (most + 1)
    for _, linear, constant, often in lines_to(table, most):
        low, high = span(length, linear, linear * linear - 2 * length * (constant - most))
        for head in range(low, high + 1):
            weight = (half * head + linear) * head + constant
            counts[weight] = counts[weight] + often
    return counts
