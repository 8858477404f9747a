"""Webs: points modulo a prime that come from one another by chosen fours of another prime."""

from signfours.base.checks import is_integer
from signfours.base.numbers import is_prime, power_modulo, rest_sign
from signfours.errors import InvalidFour, InvalidNumber, InvalidOperation
from signfours.four.fours import Four, product_entries
from signfours.order.norms import fours_of
from signfours.order.orders import plain_order
from signfours.whole.parts import hamilton

MAX_CHOSEN = 61
MAX_MODULUS = 13
MAX_WAYS = 40
IDLE = (1, 0, 0, 0)


def chosen_fours(prime):
    """The ascending tuple of the chosen fours of a prime of the form 4 m + 1."""
    check_chosen_prime(prime)
    return tuple([four for four in fours_of(plain_order(hamilton()), prime) if is_chosen(four.entries)])


class Web:
    """The points that come from (1, 0, 0, 0) by the points that the chosen fours tell. It never changes."""

    def __init__(self, prime, modulus):
        check_chosen_prime(prime)
        check_modulus(modulus)
        if modulus == prime:
            raise InvalidNumber(modulus)
        self.prime = prime
        self.modulus = modulus
        self.steps = tuple([told_point(four.entries, modulus) for four in chosen_fours(prime)])
        even, odd = points_by_sign(modulus)
        # Each step multiplies the sum of the squares by the prime; but for that, all points are reached.
        if rest_sign(prime, modulus) == 1:
            self.points = tuple(even)
            self.sides = None
        else:
            self.points = tuple(sorted(even + odd))
            self.sides = (tuple(even), tuple(odd))

    def neighbours_of(self, point):
        """The tuple of the neighbours of a point, in the sequence of the chosen fours."""
        if not is_point_of(self, point):
            raise InvalidOperation("no point of the web")
        return tuple(products_with(point, self.steps, self.modulus))

    def ways(self, many):
        """How many ways of so many steps lead from a point back to it."""
        check_ways(many)
        return ways_back(self, many, 0, 0)

    def straight_ways(self, many):
        """How many ways of so many steps that do not turn back lead from a point back to it."""
        check_ways(many)
        # A step more makes some of these ways turn back, each to one that is shorter by a step. Each
        # shorter way is met so `prime` times, but that of no steps once more.
        return ways_back(self, many, self.prime + 1, self.prime)

    def __contains__(self, value):
        return is_point_of(self, value)

    def __len__(self):
        return len(self.points)

    def __iter__(self):
        return iter(self.points)

    def __eq__(self, value):
        return isinstance(value, Web) and self.prime == value.prime and self.modulus == value.modulus

    def __str__(self):
        return f"web of {self.prime} modulo {self.modulus}"


def point_of(four, modulus):
    """The point that a four tells."""
    if not isinstance(four, Four) or four.algebra != hamilton():
        raise InvalidFour("no four of (-1, -1)")
    check_modulus(modulus)
    if four.bottom != 1 or four.norm.top % modulus == 0:
        raise InvalidOperation("the four tells no point")
    return told_point(four.entries, modulus)


def is_chosen(entries):
    """Whether the first entry is odd and above 0, and the others are even."""
    w, x, y, z = entries
    return w > 0 and w % 2 == 1 and x % 2 == 0 and y % 2 == 0 and z % 2 == 0


def told_point(entries, modulus):
    """The point that four integers tell; the sum of their squares is no multiple of the modulus."""
    rests = [entry % modulus for entry in entries]
    first = [rest for rest in rests if rest != 0][0]
    turn = power_modulo(first, modulus - 2, modulus)
    return tuple([rest * turn % modulus for rest in rests])


def products_with(point, steps, modulus):
    """The list of the products of a point and of some points."""
    algebra = hamilton()
    return [told_point(product_entries(algebra, point, step), modulus) for step in steps]


def points_by_sign(modulus):
    """The ascending lists of the points whose sums of squares are squares modulo the modulus, and of the others."""
    rests = range(modulus)
    found = [(0, 0, 0, 1)] + [(0, 0, 1, z) for z in rests] + [(0, 1, y, z) for y in rests for z in rests]
    found = found + [(1, x, y, z) for x in rests for y in rests for z in rests]
    signs = [rest_sign(sum_of_squares(point), modulus) for point in found]
    return [[point for point, sign in zip(found, signs) if sign == told] for told in (1, -1)]


def sum_of_squares(point):
    """The sum of the squares of the entries."""
    return sum([entry * entry for entry in point])


def is_point_of(web, value):
    """Whether the value is a point of a web."""
    if not isinstance(value, tuple) or len(value) != 4:
        return False
    if not all([is_integer(entry) and 0 <= entry < web.modulus for entry in value]):
        return False
    sign = rest_sign(sum_of_squares(value), web.modulus)
    if sign == 0 or (sign == -1 and web.sides is None):
        return False
    return [entry for entry in value if entry != 0][0] == 1


def ways_back(web, many, first, later):
    """How many ways of so many steps lead back, if those that turn back are taken off.

    Those are, for each way that is shorter by two steps, `later` ones, and `first` ones for that of no steps.
    """
    rows = shape_rows(web)
    ahead, made = [0] * len(rows), [1] + [0] * (len(rows) - 1)
    for at in range(many):
        back = first if at < 2 else later
        ahead, made = made, [
            sum([made[to] for to in row]) - back * there for row, there in zip(rows, ahead)
        ]
    return made[0]


def shape_rows(web):
    """The list that has for each shape of points the indices of the shapes of the neighbours, IDLE ahead.

    From IDLE equally many ways of k steps lead to all points of one shape: the chosen fours are
    chosen, too, if x, y and z are exchanged or their signs are, and these exchanges keep products,
    or turn them round as mates do.
    """
    found, rows = [shape_of(IDLE, web.modulus)], []
    indices = {found[0]: 0}
    while len(rows) < len(found):
        row = []
        for point in products_with(found[len(rows)], web.steps, web.modulus):
            shape = shape_of(point, web.modulus)
            if shape not in indices:
                indices[shape] = len(found)
                found.append(shape)
            row.append(indices[shape])
        rows.append(row)
    return rows


def shape_of(point, modulus):
    """The point to which exchanges of x, y and z, or of their signs, take all points of one shape."""
    found = []
    for scale in range(1, 2 if point[0] == 1 else modulus):
        rests = [scale * entry % modulus for entry in point[1:]]
        found.append(sorted([min(rest, modulus - rest) for rest in rests]))
    least = min(found)
    return (point[0], least[0], least[1], least[2])


def check_chosen_prime(value):
    """Refuses what is no prime of the form 4 m + 1, at most 61."""
    if not is_prime(value) or value > MAX_CHOSEN or value % 4 != 1:
        raise InvalidNumber(value)


def check_modulus(value):
    """Refuses what is no odd prime, at most 13."""
    if not is_prime(value) or value > MAX_MODULUS or value == 2:
        raise InvalidNumber(value)


def check_ways(value):
    """Refuses what is no integer from 0 to 40."""
    if not is_integer(value) or not 0 <= value <= MAX_WAYS:
        raise InvalidNumber(value)
