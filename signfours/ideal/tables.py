"""Tables that count the neighbours of the ideals of a book, by their classes."""

from signfours.base.checks import is_integer, is_passed
from signfours.base.numbers import is_prime
from signfours.errors import InvalidNumber, InvalidOperation, InvalidOrder
from signfours.ideal.classes import MAX_CLASSES, Book
from signfours.order.shorts import points_of

MAX_TABLE = 30
MAX_STEPS = 20


def table_of_neighbours(book, n):
    """The table of the numbers of the steps of the norm n from the ideals of a book, by their classes."""
    check_book(book)
    check_norm(n)
    return neighbour_table(book, n)


def primitive_table(book, n):
    """The table of the numbers of the primitive steps of the norm n."""
    check_book(book)
    check_norm(n)
    made = neighbour_table(book, n)
    # What is not primitive lies in m times the ideal for just one m and is primitive there.
    for part in range(2, n + 1):
        if n % (part * part) == 0:
            made = less_table(made, 1, primitive_table(book, n // (part * part)))
    return made


def ways_table(book, prime, many):
    """The table of the numbers of the ways of so many steps at a prime that do not turn back."""
    check_book(book)
    check_step(prime)
    if not is_integer(many) or not 0 <= many <= MAX_STEPS:
        raise InvalidNumber(many)
    if book.order.algebra.discriminant % prime == 0:
        raise InvalidOperation("the prime divides the discriminant")
    steps = neighbour_table(book, prime)
    ahead, made = idle_table(len(book.ideals)), steps
    if many == 0:
        return ahead
    # A step behind a way of k steps makes a way of k + 1 steps, or turns back. It turns back to each
    # way of k - 1 steps at `prime` ways, but at one more where all ways have one step.
    for at in range(many - 1):
        back = prime + 1 if at == 0 else prime
        ahead, made = made, less_table(multiplied(made, steps), back, ahead)
    return made


def is_joined(book, prime):
    """Whether each class of the book is reached from each other one by steps of this norm."""
    check_book(book)
    check_step(prime)
    table = neighbour_table(book, prime)
    # A step can be taken back by steps, so it is enough to go out from the first class.
    reached = [0]
    at = 0
    while at < len(reached):
        row = table[reached[at]]
        reached = reached + [to for to in range(len(row)) if row[to] > 0 and to not in reached]
        at = at + 1
    return len(reached) == len(table)


def is_balanced(book, table):
    """Whether the table is balanced by the weights of the book."""
    check_book(book)
    if not is_table(table, len(book.ideals)):
        raise InvalidOperation("no table of the size of the book")
    weights = book.weights
    size = range(len(weights))
    return all([weights[to] * table[at][to] == weights[at] * table[to][at] for at in size for to in size])


def table_product(one, other):
    """The product of two tables, rows by columns."""
    check_table(one)
    if not is_table(other, len(one)):
        raise InvalidOperation("no table of the size of the first one")
    return multiplied(one, other)


def table_trace(table):
    """The sum of the entries at equal indices."""
    check_table(table)
    return sum([row[at] for at, row in enumerate(table)])


def neighbour_table(book, n):
    """The table of neighbours, by the fours of the weight n between the ideals."""
    counts = [[len(points_of(table, n)) for table in row] for row in book.joints]
    # The mates of the fours between two ideals are, but for a ratio, those between them the other way.
    size = range(len(counts))
    return tuple([
        tuple([counts[max(at, to)][min(at, to)] // book.weights[to] for to in size]) for at in size
    ])


def idle_table(size):
    """The table with 1 at equal indices and 0 elsewhere."""
    return tuple([tuple([1 if at == to else 0 for to in range(size)]) for at in range(size)])


def multiplied(one, other):
    """The product of two tables of one size."""
    columns = list(zip(*other))
    return tuple([
        tuple([sum([left * right for left, right in zip(row, column)]) for column in columns]) for row in one
    ])


def less_table(one, many, other):
    """A table less a multiple of another one."""
    return tuple([
        tuple([left - many * right for left, right in zip(row, there)]) for row, there in zip(one, other)
    ])


def check_book(value):
    """Refuses what is no book."""
    if not isinstance(value, Book):
        raise InvalidOrder("no book")


def check_norm(value):
    """Refuses what is no integer from 1 to 30."""
    if not is_integer(value) or not 1 <= value <= MAX_TABLE:
        raise InvalidNumber(value)


def check_step(value):
    """Refuses what is no prime below 30."""
    if not is_prime(value) or value > MAX_TABLE:
        raise InvalidNumber(value)


def check_table(value):
    """Refuses what is no table of a size from 1 to 12."""
    if not isinstance(value, tuple) or not 1 <= len(value) <= MAX_CLASSES or not is_table(value, len(value)):
        raise InvalidOperation("no table of a size from 1 to 12")


def is_table(value, size):
    """Whether the value is a tuple of so many rows, each one a tuple of so many integers."""
    return isinstance(value, tuple) and len(value) == size and all([is_row(row, size) for row in value])


def is_row(value, size):
    """Whether the value is a tuple of so many integers."""
    return isinstance(value, tuple) and len(value) == size and all([is_passed(entry) for entry in value])
