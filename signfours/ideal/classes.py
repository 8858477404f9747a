"""Books: one ideal of each class of a greatest order of a definite algebra."""

from signfours.base.checks import is_integer
from signfours.base.numbers import MAX_NUMBER, is_prime, residue_sign
from signfours.base.ratios import made_ratio
from signfours.errors import InvalidIdeal, InvalidNumber, InvalidOperation, InvalidOrder, TooMany
from signfours.four.fours import made_four
from signfours.ideal.ideals import is_ideal_of
from signfours.ideal.steps import between_grid, joint_table, light_grid, member_of_weight, steps_within, unit_count
from signfours.order.lattices import Lattice, grid_in, made_lattice
from signfours.order.orders import discriminant_of, is_order
from signfours.order.shorts import points_of

MAX_CLASSES = 12


class Book:
    """One ideal of each class of a greatest order of a definite algebra. It never changes."""

    def __init__(self, order):
        check_bounded_order(order)
        found = class_grids(order)
        self.order = order
        self.ideals = (order,) + tuple([made_lattice(order.algebra, grid) for grid in found[1:]])
        self.weights = tuple([unit_count(order.algebra, grid) for grid in found])
        self._joints = None

    @property
    def joints(self):
        """The tables of the weights of the fours between each ideal and those ahead of it and itself."""
        if self._joints is None:
            self._joints = joint_tables(self.order.algebra, self.ideals)
        return self._joints

    def index(self, ideal):
        """The index of the ideal in the book that is of one class with an ideal of the order."""
        algebra = self.order.algebra
        if not is_ideal_of(algebra, grid_in(self.order), ideal):
            raise InvalidIdeal("no ideal of the order of the book")
        light = light_grid(algebra, grid_in(ideal))
        found = [at for at in range(len(self.ideals)) if is_one_class(algebra, grid_in(self.ideals[at]), light)]
        return found[0]

    def order_at(self, at):
        """The right order of the ideal at an index."""
        check_index(self, at)
        return self.ideals[at].right_order()

    def lead(self, at, to):
        """Any four by which the right order at an index is led to the one at another index, or None."""
        check_index(self, at)
        check_index(self, to)
        return lead_between(self, at, to)

    def kinds(self):
        """The tuple of the ascending tuples of the indices whose right orders are of one kind."""
        found = []
        for at in range(len(self.ideals)):
            homes = [kind for kind in found if lead_between(self, kind[0], at) is not None]
            if homes:
                found = [kind + [at] if kind == homes[0] else kind for kind in found]
            else:
                found = found + [[at]]
        return tuple([tuple(kind) for kind in found])

    def __eq__(self, value):
        return isinstance(value, Book) and self.order == value.order and self.ideals == value.ideals

    def __len__(self):
        return len(self.ideals)

    def __contains__(self, value):
        return isinstance(value, Lattice) and any([ideal == value for ideal in self.ideals])

    def __iter__(self):
        return iter(self.ideals)

    def __str__(self):
        weights = " ".join([str(weight) for weight in self.weights])
        return f"book of {len(self.ideals)} classes: weights {weights}"


def is_book(order, value):
    """Whether the value is a tuple of ideals of the order, one of each class."""
    check_bounded_order(order)
    algebra = order.algebra
    if not isinstance(value, tuple) or len(value) != class_number(algebra.places[1:]):
        return False
    if not all([is_ideal_of(algebra, grid_in(order), ideal) for ideal in value]):
        return False
    found = [light_grid(algebra, grid_in(ideal)) for ideal in value]
    return not any([is_one_class(algebra, found[at], found[to]) for at in range(len(found)) for to in range(at)])


def mass(order):
    """The sum of 1 / weight over all classes of an order."""
    check_definite_order(order)
    return made_ratio(totient(order.algebra.places[1:]), 24)


def classes_by_rule(primes):
    """The number of classes of the greatest orders of the algebra whose places are 0 and these primes."""
    if not is_odd_primes(primes):
        raise InvalidOperation("no ascending tuple of an odd number of primes with a product of at most 10 ** 9")
    return class_number(primes)


def check_definite_order(value):
    """Refuses what is no greatest order of a definite algebra."""
    if not is_order(value) or not value.algebra.is_definite:
        raise InvalidOrder("no order of a definite algebra")
    if discriminant_of(value) != value.algebra.discriminant:
        raise InvalidOrder("no greatest order")


def check_bounded_order(value):
    """Refuses what is no greatest order of a definite algebra with few classes."""
    check_definite_order(value)
    if class_number(value.algebra.places[1:]) > MAX_CLASSES:
        raise TooMany(MAX_CLASSES)


def check_index(book, value):
    """Refuses what is no index of the book."""
    if not is_integer(value) or not 0 <= value < len(book.ideals):
        raise InvalidNumber(value)


def is_odd_primes(value):
    """Whether the value is an ascending tuple of an odd number of primes with a bounded product."""
    if not isinstance(value, tuple) or len(value) % 2 == 0:
        return False
    bound, least = MAX_NUMBER, 2
    for prime in value:
        if not is_integer(prime) or not least <= prime <= bound or not is_prime(prime):
            return False
        bound, least = bound // prime, prime + 1
    return True


def totient(primes):
    """The product of p - 1 over some primes."""
    made = 1
    for prime in primes:
        made = made * (prime - 1)
    return made


def class_number(primes):
    """The number of classes by the rule."""
    fourths, thirds = 1, 1
    for prime in primes:
        fourths = fourths * (1 - residue_sign(-4, prime))
        thirds = thirds * (1 - residue_sign(-3, prime))
    return (totient(primes) + 3 * fourths + 4 * thirds) // 12


def class_grids(order):
    """The list of the grids of an ideal of each class, the order ahead."""
    algebra, start = order.algebra, grid_in(order)
    found, many = [start], class_number(algebra.places[1:])
    prime = [size for size in (2, 3, 5, 7, 11, 13, 17, 19, 23, 29) if algebra.discriminant % size != 0][0]
    at = 0
    # Each class is reached from neighbour to neighbour.
    while len(found) < many:
        for step in steps_within(algebra, start, found[at], prime):
            light = light_grid(algebra, step)
            if not any([is_one_class(algebra, grid, light) for grid in found]):
                found = found + [light]
        at = at + 1
    return found


def is_one_class(algebra, one, other):
    """Whether two ideals of one order are of one class."""
    return len(points_of(joint_table(algebra, one, other), 1)) > 0


def joint_tables(algebra, ideals):
    """The tuple that has at an index those of the tables of the ideal there and those ahead and itself."""
    grids = [grid_in(ideal) for ideal in ideals]
    return tuple([
        tuple([joint_table(algebra, grids[to], grids[at]) for to in range(at + 1)]) for at in range(len(grids))
    ])


def lead_between(book, at, to):
    """A four by which the right order at an index is led to the one at another index, or None."""
    if book.weights[at] != book.weights[to]:
        return None
    algebra = book.order.algebra
    grid = between_grid(algebra, grid_in(book.ideals[to]), grid_in(book.ideals[at]))
    # The ideals that lead lie in this one; their norms are products of primes of the algebra, and
    # the members with such weights are just what makes them.
    for many in divisors(algebra.places[1:]):
        found = member_of_weight(algebra, grid, many)
        if found is not None:
            return made_four(algebra, found[0], found[1])
    return None


def divisors(primes):
    """The ascending list of the products of some of the primes."""
    found = [1]
    for prime in primes:
        found = found + [prime * one for one in found]
    return sorted(found)
