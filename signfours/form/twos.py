"""Forms in two unknowns, their class numbers, and the traces that they tell."""

from math import gcd, isqrt

from signfours.base.checks import is_integer, is_passed, is_triple
from signfours.base.numbers import rest_sign
from signfours.base.ratios import Ratio, made_ratio
from signfours.errors import InvalidForm, InvalidNumber, InvalidOperation
from signfours.ideal.classes import is_odd_primes, totient
from signfours.order.norms import check_definite
from signfours.order.orders import check_order
from signfours.order.shorts import points_of, short_form

MAX_NUMBER = 2000
MAX_PRODUCT = 120
MAX_MANY = 200
MAX_TRACE = 1000


def reduced_forms(number):
    """The ascending tuple of all primitive reduced forms with a number."""
    check_form_number(number)
    return tuple(forms_with(number))


def class_number(number):
    """How many primitive reduced forms with a number there are."""
    check_form_number(number)
    return len(forms_with(number))


def unit_number(number):
    """By how many tables a primitive form with a number is led to itself."""
    check_form_number(number)
    return units_of(number)


def is_reduced(value):
    """Whether the value is a reduced form, primitive or not."""
    if not is_two_form(value):
        return False
    a, b, c = value
    return -a < b <= a <= c and (a < c or b >= 0)


def reduced(form):
    """Any pair of the reduced form to which the form is led and of a table that leads it there."""
    check_form(form)
    a, b, c = form
    p, q, r, s = 1, 0, 0, 1
    while True:
        many = (a - b) // (2 * a)
        b, c = b + 2 * a * many, c + many * (b + a * many)
        q, s = q + p * many, s + r * many
        if a < c or (a == c and b >= 0):
            return (a, b, c), ((p, q), (r, s))
        a, b, c = c, -b, a
        p, q, r, s = q, -p, s, -r


def is_reducing(form, value):
    """Whether the value is a pair of a reduced form and of a table that leads the form to it."""
    check_form(form)
    if not isinstance(value, tuple) or len(value) != 2:
        return False
    return is_reduced(value[0]) and is_lead_table(value[1]) and led_form(form, value[1]) == value[0]


def summand(primes, trace, many):
    """What the fours with a trace and a norm add to the trace of a table of neighbours, a ratio."""
    check_primes(primes)
    check_trace(trace)
    check_many(many)
    return summand_of(primes, 4 * many - trace * trace)


def trace_by_forms(primes, many):
    """The sum of the summands of all integers."""
    check_primes(primes)
    check_many(many)
    total = summand_of(primes, 4 * many)
    for trace in range(1, isqrt(4 * many) + 1):
        # Opposite integers have equal summands.
        total = total + summand_of(primes, 4 * many - trace * trace) * 2
    return total.top


def fours_with(order, trace, many):
    """The number of the fours of an order of a definite algebra with a trace and a norm."""
    check_order(order)
    check_trace(trace)
    check_many(many)
    check_definite(order)
    rows, table = short_form(order.algebra, order.rows)
    traces = [2 * sum([head * row[0] for head, row in zip(point, rows)]) for point in points_of(table, many)]
    return traces.count(trace * order.bottom)


def is_two_form(value):
    """Whether the value is a form in two unknowns, with integers of any length."""
    return is_triple(value) and value[0] > 0 and 4 * value[0] * value[2] > value[1] * value[1]


def is_lead_table(value):
    """Whether the value is a table of two rows of two integers with the determinant 1."""
    if not isinstance(value, tuple) or len(value) != 2 or not all([is_integer_pair(row) for row in value]):
        return False
    (p, q), (r, s) = value
    return p * s - q * r == 1


def is_integer_pair(value):
    """Whether the value is a pair of integers of any length."""
    return isinstance(value, tuple) and len(value) == 2 and all([is_integer(part) for part in value])


def led_form(form, table):
    """The form to which a table leads a form."""
    a, b, c = form
    (p, q), (r, s) = table
    mixed = 2 * a * p * q + b * (p * s + q * r) + 2 * c * r * s
    return a * p * p + b * p * r + c * r * r, mixed, a * q * q + b * q * s + c * s * s


def forms_with(number):
    """The ascending list of all primitive reduced forms with a number."""
    found = []
    # In a reduced form 3 a a is at most 4 a c - b b.
    for a in range(1, isqrt(number // 3) + 1):
        for b in range(1 - a, a + 1):
            c, rest = divmod(number + b * b, 4 * a)
            if rest == 0 and gcd(a, b, c) == 1 and is_reduced((a, b, c)):
                found.append((a, b, c))
    return found


def units_of(number):
    """The unit number."""
    if number == 3:
        return 6
    return 4 if number == 4 else 2


def summand_of(primes, number):
    """The summand that a number 4 n - s s tells."""
    if number < 0:
        return Ratio(0)
    if number == 0:
        return made_ratio(totient(primes), 24)
    total = Ratio(0)
    for part in square_parts(number):
        left = number // (part * part)
        worth = len(forms_with(left))
        for prime in primes:
            worth = worth * (1 - mark(prime, left))
        total = total + made_ratio(worth, units_of(left))
    return total


def mark(prime, number):
    """1 if the prime divides the conductor of the number, and otherwise the residue sign of its opposite."""
    return 1 if square_parts(number)[-1] % prime == 0 else rest_sign(-number, prime)


def square_parts(number):
    """The ascending list of the integers whose squares leave a number of a form if they are taken out of it."""
    return [
        part for part in range(1, isqrt(number) + 1)
        if number % (part * part) == 0 and number // (part * part) % 4 in (0, 3)
    ]


def check_form_number(value):
    """Refuses what is no integer from 1 to 2000."""
    if not is_integer(value) or not 1 <= value <= MAX_NUMBER:
        raise InvalidNumber(value)


def check_form(value):
    """Refuses what is no form, or has integers that are too long."""
    if not is_two_form(value) or not all([is_passed(part) for part in value]):
        raise InvalidForm("no form in two unknowns")


def check_primes(value):
    """Refuses what is no ascending tuple of an odd number of primes with a product of at most 120."""
    if not is_odd_primes(value):
        raise InvalidOperation("no ascending tuple of an odd number of primes")
    made = 1
    for prime in value:
        made = made * prime
    if made > MAX_PRODUCT:
        raise InvalidOperation("the product of the primes is greater than 120")


def check_trace(value):
    """Refuses what is no integer from -1000 to 1000."""
    if not is_integer(value) or abs(value) > MAX_TRACE:
        raise InvalidNumber(value)


def check_many(value):
    """Refuses what is no integer from 1 to 200."""
    if not is_integer(value) or not 1 <= value <= MAX_MANY:
        raise InvalidNumber(value)
