"""Books: one ideal of each class of a greatest order of a definite algebra."""

from signfours.base.checks import is_integer
from signfours.base.numbers import MAX_NUMBER, is_prime, residue_sign
from signfours.base.ratios import made_ratio
from signfours.errors import InvalidIdeal, InvalidNumber, InvalidOperation, InvalidOrder, TooMany
from signfours.four.fours import made_four
from signfours.four.leading import primitive
from signfours.ideal.ideals import is_ideal_of
from signfours.ideal.steps import (
    between_grid, joint_table, light_grid, member_of_weight, small_turn, steps_within, unit_count,
)
from signfours.order.grids import ahead_grid, by_grid
from signfours.order.lattices import Lattice, grid_in, made_lattice
from signfours.order.orders import discriminant_of, is_order
from signfours.order.shorts import points_of

MAX_CLASSES = 12


class Book:
    """One ideal of each class of a greatest order of a definite algebra. It never changes."""

    def __init__(self, order):
        check_bounded_order(order)
        algebra = order.algebra
        self.order = order
        # What the ideals tell is worked out from their twins, the products of a four and of their
        # members: these have small integers, and the same right orders but for the order itself.
        self.turn = small_turn(algebra, grid_in(order))
        self.twins = tuple(class_grids(algebra, led_grid(algebra, grid_in(order), self.turn)))
        self.ideals = (order,) + tuple([lattice_of_twin(algebra, grid, self.turn) for grid in self.twins[1:]])
        self.weights = tuple([unit_count(algebra, grid) for grid in self.twins])
        self._joints = None

    @property
    def joints(self):
        """The tables of the weights of the fours between each ideal and those ahead of it and itself."""
        if self._joints is None:
            self._joints = joint_tables(self.order.algebra, self.twins)
        return self._joints

    def index(self, ideal):
        """The index of the ideal in the book that is of one class with an ideal of the order."""
        algebra = self.order.algebra
        if not is_ideal_of(algebra, grid_in(self.order), ideal):
            raise InvalidIdeal("no ideal of the order of the book")
        light = light_twin(algebra, grid_in(ideal), self.turn)
        return [is_one_class(algebra, twin, light) for twin in self.twins].index(True)

    def order_at(self, at):
        """The right order of the ideal at an index."""
        check_index(self, at)
        return self.ideals[at].right_order()

    def lead(self, at, to):
        """Any four by which the right order at an index is led to the one at another index, or None."""
        check_index(self, at)
        check_index(self, to)
        return lead_between(self, at, to)

    def kinds(self):
        """The tuple of the ascending tuples of the indices whose right orders are of one kind."""
        found = []
        for at in range(len(self.ideals)):
            homes = [kind for kind in found if lead_between(self, kind[0], at) is not None]
            if homes:
                found = [kind + [at] if kind == homes[0] else kind for kind in found]
            else:
                found = found + [[at]]
        return tuple([tuple(kind) for kind in found])

    def __eq__(self, value):
        return isinstance(value, Book) and self.order == value.order and self.ideals == value.ideals

    def __len__(self):
        return len(self.ideals)

    def __contains__(self, value):
        return isinstance(value, Lattice) and any([ideal == value for ideal in self.ideals])

    def __iter__(self):
        return iter(self.ideals)

    def __str__(self):
        return f"book of {len(self.ideals)} classes: weights {written_weights(self.weights)}"


def is_book(order, value):
    """Whether the value is a tuple of ideals of the order, one of each class."""
    check_bounded_order(order)
    algebra = order.algebra
    if not isinstance(value, tuple) or len(value) != class_number(algebra.places[1:]):
        return False
    if not all([is_ideal_of(algebra, grid_in(order), ideal) for ideal in value]):
        return False
    turn = small_turn(algebra, grid_in(order))
    found = [light_twin(algebra, grid_in(ideal), turn) for ideal in value]
    return not any([is_one_class(algebra, found[at], found[to]) for at in range(len(found)) for to in range(at)])


def mass(order):
    """The sum of 1 / weight over all classes of an order."""
    check_definite_order(order)
    return made_ratio(totient(order.algebra.places[1:]), 24)


def classes_by_rule(primes):
    """The number of classes of the greatest orders of the algebra whose places are 0 and these primes."""
    if not is_odd_primes(primes):
        raise InvalidOperation("no ascending tuple of an odd number of primes with a product of at most 10 ** 9")
    return class_number(primes)


def check_definite_order(value):
    """Refuses what is no greatest order of a definite algebra."""
    if not is_order(value) or not value.algebra.is_definite:
        raise InvalidOrder("no order of a definite algebra")
    if discriminant_of(value) != value.algebra.discriminant:
        raise InvalidOrder("no greatest order")


def check_bounded_order(value):
    """Refuses what is no greatest order of a definite algebra with few classes."""
    check_definite_order(value)
    if class_number(value.algebra.places[1:]) > MAX_CLASSES:
        raise TooMany(MAX_CLASSES)


def check_index(book, value):
    """Refuses what is no index of the book."""
    if not is_integer(value) or not 0 <= value < len(book.ideals):
        raise InvalidNumber(value)


def is_odd_primes(value):
    """Whether the value is an ascending tuple of an odd number of primes with a bounded product."""
    if not isinstance(value, tuple) or len(value) % 2 == 0:
        return False
    bound, least = MAX_NUMBER, 2
    for prime in value:
        if not is_integer(prime) or not least <= prime <= bound or not is_prime(prime):
            return False
        bound, least = bound // prime, prime + 1
    return True


def totient(primes):
    """The product of p - 1 over some primes."""
    made = 1
    for prime in primes:
        made = made * (prime - 1)
    return made


def class_number(primes):
    """The number of classes by the rule."""
    fourths, thirds = 1, 1
    for prime in primes:
        fourths = fourths * (1 - residue_sign(-4, prime))
        thirds = thirds * (1 - residue_sign(-3, prime))
    return (totient(primes) + 3 * fourths + 4 * thirds) // 12


def led_grid(algebra, grid, four):
    """The grid of the fours z * x / z, for members x and a four z."""
    back = four.inverse()
    return by_grid(algebra, ahead_grid(algebra, grid, four.entries, four.bottom), back.entries, back.bottom)


def light_twin(algebra, grid, turn):
    """The grid of a light ideal in the class of the products of the turn and of the members of an ideal."""
    return light_grid(algebra, ahead_grid(algebra, grid, turn.entries, turn.bottom))


def lattice_of_twin(algebra, grid, turn):
    """The lattice of the fours whose products with the turn are the members of a grid."""
    back = turn.inverse()
    return made_lattice(algebra, ahead_grid(algebra, grid, back.entries, back.bottom))


def class_grids(algebra, start):
    """The list of the grids of an ideal of each class of an order, told as a grid, this one ahead."""
    found, many = [start], class_number(algebra.places[1:])
    prime = [size for size in (2, 3, 5, 7, 11, 13, 17, 19, 23, 29) if algebra.discriminant % size != 0][0]
    at = 0
    # Each class is reached from neighbour to neighbour.
    while len(found) < many:
        steps = steps_within(algebra, start, found[at], prime)
        for step in steps:
            light = light_grid(algebra, step)
            if not any([is_one_class(algebra, grid, light) for grid in found]):
                found = found + [light]
        at = at + 1
    return found


def is_one_class(algebra, one, other):
    """Whether two ideals of one order are of one class."""
    return len(points_of(joint_table(algebra, one, other), 1)) > 0


def joint_tables(algebra, grids):
    """The list that has at an index the tables of the ideal there, with each one ahead and with itself."""
    return [[joint_table(algebra, grids[to], grids[at]) for to in range(at + 1)] for at in range(len(grids))]


def lead_between(book, at, to):
    """A four by which the right order at an index is led to the one at another index, or None."""
    if book.weights[at] != book.weights[to]:
        return None
    algebra = book.order.algebra
    grid = between_grid(algebra, book.twins[to], book.twins[at])
    # The ideals that lead lie in this one; their norms are products of primes of the algebra, and
    # the members with such weights are just what makes them.
    for many in divisors(algebra.places[1:]):
        found = member_of_weight(algebra, grid, many)
        if found is not None:
            return lead_of_twins(book, at, to, made_four(algebra, found[0], found[1]))
    return None


def lead_of_twins(book, at, to, four):
    """The four that does with the right orders of two ideals what a four does with those of their twins."""
    # Only the order itself and its twin, the order led by the turn, have unlike right orders.
    if at == 0:
        four = four * book.turn
    if to == 0:
        four = book.turn.inverse() * four
    return primitive(four)


def written_weights(weights):
    """The weights with a blank between them."""
    return " ".join([str(weight) for weight in weights])


def divisors(primes):
    """The ascending list of the products of some of the primes."""
    found = [1]
    for prime in primes:
        found = found + [prime * one for one in found]
    return sorted(found)
