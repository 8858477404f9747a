"""Tables of an algebra without places, and algebras with told places."""

from math import lcm

from signfours.base.checks import is_integer
from signfours.base.numbers import is_prime
from signfours.base.ratios import Ratio, made_ratio
from signfours.errors import InvalidOperation, Refused, TooMany
from signfours.four.fours import check_algebra, check_four, made_four
from signfours.split.placed import algebra_with
from signfours.split.points import norm_solution, solution

MAX_NUMBER = 1000000
MAX_PLACE = 30
MOST_PLACES = 4


def zero_norm(algebra):
    """Any four of the algebra other than 0 whose norm is 0, or None."""
    check_small_algebra(algebra)
    if not algebra.is_tables:
        return None
    x, y, z = solution(algebra.a, algebra.b)
    return made_four(algebra, (z, x, y, 0), 1)


def table_pair(algebra):
    """Any table pair of the algebra, or None."""
    check_small_algebra(algebra)
    if not algebra.is_tables:
        return None
    # With I = ((0, a), (1, 0)) just the tables ((p, -a r), (r, -p)) make opposite products with I,
    # and such a table multiplied by itself has p p - a r r on its diagonal.
    z, x, y = norm_solution(algebra.a, algebra.b)
    p, r = made_ratio(z, y), made_ratio(x, y)
    first = ((Ratio(0), Ratio(algebra.a)), (Ratio(1), Ratio(0)))
    return (first, ((p, -r * algebra.a), (r, -p)))


def is_table_pair(algebra, value):
    """Whether the value is a table pair of the algebra."""
    check_algebra(algebra)
    if not isinstance(value, tuple) or len(value) != 2 or not all([is_table(table) for table in value]):
        return False
    first, second = value
    there, back = product_of_tables(first, second), product_of_tables(second, first)
    return (
        product_of_tables(first, first) == diagonal(algebra.a)
        and product_of_tables(second, second) == diagonal(algebra.b)
        and all([there[row][at] == -back[row][at] for row in range(2) for at in range(2)])
    )


def table_of(four, pair):
    """The table to which a table pair leads a four."""
    check_four(four)
    check_pair(four.algebra, pair)
    tables = unit_tables(pair)
    parts = [made_ratio(entry, four.bottom) for entry in four.entries]
    return tuple([tuple([summed_entry(parts, tables, row, at) for at in range(2)]) for row in range(2)])


def four_of_table(algebra, pair, table):
    """The four that a table pair leads to a table."""
    check_algebra(algebra)
    check_pair(algebra, pair)
    if not is_table(table):
        raise InvalidOperation("no table of ratios")
    # The products of two unlike units have the trace 0, so the trace with a unit tells its entry.
    squares = (1, algebra.a, algebra.b, -algebra.a * algebra.b)
    parts = [
        trace_of(product_of_tables(table, unit)).over(2 * square) for unit, square in zip(unit_tables(pair), squares)
    ]
    bottom = lcm(parts[0].bottom, parts[1].bottom, parts[2].bottom, parts[3].bottom)
    w, x, y, z = [part.top * (bottom // part.bottom) for part in parts]
    return made_four(algebra, (w, x, y, z), bottom)


def algebra_at(places):
    """Any algebra with just these places."""
    if not is_small_places(places):
        raise InvalidOperation("no ascending tuple of at most four places, 0 or primes to 30")
    if len(places) % 2 == 1:
        raise Refused(("odd", len(places)))
    return algebra_with(places)


def check_small_algebra(algebra):
    """Refuses what is no algebra, and algebras with greater numbers."""
    check_algebra(algebra)
    if max(abs(algebra.a), abs(algebra.b)) > MAX_NUMBER:
        raise TooMany(MAX_NUMBER)


def check_pair(algebra, pair):
    """Refuses what is no table pair of the algebra."""
    if not is_table_pair(algebra, pair):
        raise InvalidOperation("no table pair of the algebra")


def is_small_places(value):
    """Whether the value is an ascending tuple of at most four places, 0 or primes to 30."""
    if not isinstance(value, tuple) or len(value) > MOST_PLACES:
        return False
    if not all([is_small_place(place) for place in value]):
        return False
    return all([one < other for one, other in zip(value, value[1:])])


def is_small_place(value):
    """Whether the value is 0 or a prime to 30."""
    return is_integer(value) and value <= MAX_PLACE and (value == 0 or is_prime(value))


def is_table(value):
    """Whether the value is a pair of two pairs of ratios."""
    return isinstance(value, tuple) and len(value) == 2 and all([is_pair(row) for row in value])


def is_pair(value):
    """Whether the value is a pair of ratios."""
    return isinstance(value, tuple) and len(value) == 2 and all([isinstance(entry, Ratio) for entry in value])


def diagonal(number):
    """The table with the number on its diagonal and 0 beside it."""
    return ((Ratio(number), Ratio(0)), (Ratio(0), Ratio(number)))


def product_of_tables(one, other):
    """The product of two tables, row by column."""
    return tuple([
        tuple([row[0] * other[0][at] + row[1] * other[1][at] for at in range(2)]) for row in one
    ])


def trace_of(table):
    """The sum of the diagonal of a table."""
    return table[0][0] + table[1][1]


def unit_tables(pair):
    """The tables for 1, i, j and k."""
    first, second = pair
    return (diagonal(1), first, second, product_of_tables(first, second))


def summed_entry(parts, tables, row, at):
    """The entry of the sum of tables that are multiplied by ratios."""
    made = Ratio(0)
    for part, table in zip(parts, tables):
        made = made + part * table[row][at]
    return made
