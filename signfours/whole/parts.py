"""Whole fours: nearest ones, common factors behind, and factors of a prime norm ahead.

What is told of factors behind holds of those ahead for the mates.
"""

from signfours.base.checks import TOO_LONG
from signfours.base.numbers import rest_sign, root_modulo
from signfours.four.fours import Algebra, Four, made_four

SIGNS = (1, -1)


def is_whole_four(value):
    """Whether the value is a four of (-1, -1) with integers, or with halves of odd integers, as its entries."""
    if not isinstance(value, Four) or value.algebra.a != -1 or value.algebra.b != -1:
        return False
    return value.bottom == 1 or (value.bottom == 2 and all([entry % 2 == 1 for entry in value.entries]))


def hamilton():
    """The algebra of the whole fours."""
    return Algebra(-1, -1)


def doubled(four):
    """The tuple of twice the entries of a whole four."""
    w, x, y, z = four.entries
    return (2 * w, 2 * x, 2 * y, 2 * z) if four.bottom == 1 else four.entries


def unit_fours():
    """The list of the 24 whole fours of the norm 1."""
    algebra = hamilton()
    plain = [four.scaled(sign) for four in algebra.basis() for sign in SIGNS]
    return plain + [Four(algebra, (p, q, r, s), 2) for p in SIGNS for q in SIGNS for r in SIGNS for s in SIGNS]


def small_division(one, other):
    """A pair (q, r) with one == q * other + r, a norm of r less than that of other, and small integers."""
    entries, size = quotient_parts(one, other)
    plain = made_four(one.algebra, nearest_integers(entries, size), 1)
    middle = made_four(one.algebra, nearest_odds(entries, size), 2)
    found = smallest_pair(one, other, [plain, middle])
    # Of fours with integers of sixty digits the halves can be longer; then others are tried.
    if greatest_part(found) >= TOO_LONG:
        found = smallest_pair(one, other, [plain, middle, one - one] + [plain + unit for unit in unit_fours()])
    return found


def smallest_pair(one, other, quotients):
    """The pair (q, r) with the smallest integers of those that some quotients tell."""
    pairs = [(quotient, one - quotient * other) for quotient in quotients]
    right = [pair for pair in pairs if pair[1].norm.compared(other.norm) < 0]
    sizes = [greatest_part(pair) for pair in right]
    return right[sizes.index(min(sizes))]


def nearest_quotient(one, other):
    """The whole four nearest to the quotient."""
    entries, size = quotient_parts(one, other)
    plain, middle = nearest_integers(entries, size), nearest_odds(entries, size)
    if fault_of(entries, size, [2 * part for part in plain]) <= fault_of(entries, size, middle):
        return made_four(one.algebra, plain, 1)
    return made_four(one.algebra, middle, 2)


def quotient_parts(one, other):
    """The entries of one / other over a common integer."""
    exact = one * other.mate()
    return exact.entries, exact.bottom * other.norm.top


def nearest_integers(entries, size):
    """The integers nearest to the entries over a size."""
    return tuple([(2 * entry + size) // (2 * size) for entry in entries])


def nearest_odds(entries, size):
    """Twice the halves of odd integers nearest to the entries over a size."""
    return tuple([2 * (entry // size) + 1 for entry in entries])


def fault_of(entries, size, parts):
    """How far half of the parts are from the entries over a size, as a square that grows with it."""
    faults = [2 * entry - size * part for entry, part in zip(entries, parts)]
    return sum([fault * fault for fault in faults])


def greatest_part(fours):
    """The greatest size of an integer of some fours."""
    return max([abs(entry) for four in fours for entry in four.entries])


def common_behind(one, other):
    """A common factor d of two whole fours, not both 0, behind them."""
    while other:
        one, other = other, one - nearest_quotient(one, other) * other
    return one


def common_rows(one, other):
    """A triple (d, s, t) with the common factor d = s * one + t * other, and one with 0 in the place of d."""
    unit = one.algebra.basis()[0]
    ahead, row = (one, unit, unit - unit), (other, unit - unit, unit)
    while row[0]:
        ahead, row = row, less_row(ahead, nearest_quotient(ahead[0], row[0]), row)
    return ahead, row


def less_row(row, many, other):
    """A triple less a multiple of another one."""
    return row[0] - many * other[0], row[1] - many * other[1], row[2] - many * other[2]


def small_row(row, idle):
    """A triple (d, s, t) of common factors with small integers; the other triple has 0 in the place of d."""
    if idle[1]:
        row = less_row(row, nearest_quotient(row[1], idle[1]), idle)
    found = moved_row(row)
    # Of fours with integers of sixty digits the halves can be longer; then a unit more or less is tried.
    if greatest_part(found) >= TOO_LONG:
        tried = [found] + [moved_row(less_row(row, unit, idle)) for unit in unit_fours()]
        sizes = [greatest_part(triple) for triple in tried]
        found = tried[sizes.index(min(sizes))]
    return found


def moved_row(row):
    """The triple multiplied ahead by the unit that makes the integers smallest."""
    moved = [(unit * row[0], unit * row[1], unit * row[2]) for unit in unit_fours()]
    sizes = [greatest_part(triple) for triple in moved]
    return moved[sizes.index(min(sizes))]


def factor_ahead(four, prime):
    """A whole four of a prime norm that is a factor ahead of a whole four; the prime divides its norm."""
    size = four.algebra.basis()[0].scaled(prime)
    found = common_behind(four.mate(), size).mate()
    # If the prime divides the four itself, each four of this norm is a factor.
    return found if found.norm == prime else four_of_norm(prime)


def without_factor(four, factor):
    """What is behind a factor of a whole four."""
    made = factor.mate() * four
    return made_four(made.algebra, made.entries, made.bottom * factor.norm.top)


def four_of_norm(prime):
    """A whole four whose norm is a prime."""
    algebra = hamilton()
    if prime == 2:
        return Four(algebra, (1, 1, 0, 0))
    first = 0
    while rest_sign(-1 - first * first, prime) == -1:
        first = first + 1
    # The prime divides the norm of this four, but not the four.
    start = Four(algebra, (1, first, root_modulo(-1 - first * first, prime), 0))
    return common_behind(start, Four(algebra, (prime, 0, 0, 0)))
