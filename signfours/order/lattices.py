"""Lattices of an algebra."""

from signfours.base.ratios import check_ratio, made_ratio, terms_of
from signfours.errors import InvalidFour, InvalidLattice, InvalidRatio
from signfours.four.fours import check_algebra, is_four_of, is_fours_of, made_four, over_one_bottom
from signfours.order.forms import content_of, pairings
from signfours.order.grids import (
    ahead_grid, by_grid, coordinates, grid_of, has_all, left_grid, mates_grid, meet_grid, product_grid, right_grid,
    scaled_grid, sum_grid, volume,
)

LEAST_FOURS = 4
MOST_FOURS = 40


class Lattice:
    """The sums of integer multiples of some fours that span an algebra. It never changes."""

    def __init__(self, algebra, fours):
        check_algebra(algebra)
        if not is_fours_of(algebra, fours, LEAST_FOURS, MOST_FOURS):
            raise InvalidLattice("no tuple of 4 to 40 fours of the algebra")
        vectors, bottom = over_one_bottom(fours)
        grid = grid_of(vectors, bottom)
        if grid is None:
            raise InvalidLattice("the fours do not span the algebra")
        self.algebra = algebra
        self.rows, self.bottom = grid

    def basis(self):
        """The fours whose entries are the plain rows, divided by the bottom."""
        return tuple([made_four(self.algebra, row, self.bottom) for row in self.rows])

    def by(self, four):
        """The lattice of all x * four with members x."""
        check_unit(self.algebra, four)
        return made_lattice(self.algebra, by_grid(self.algebra, grid_in(self), four.entries, four.bottom))

    def ahead(self, four):
        """The lattice of all four * x with members x."""
        check_unit(self.algebra, four)
        return made_lattice(self.algebra, ahead_grid(self.algebra, grid_in(self), four.entries, four.bottom))

    def mates(self):
        """The lattice of the mates of the members."""
        return made_lattice(self.algebra, mates_grid(grid_in(self)))

    def scaled(self, ratio):
        """The lattice of the members multiplied by a ratio or an integer other than 0."""
        check_ratio(ratio)
        top, bottom = terms_of(ratio)
        if top == 0:
            raise InvalidRatio("a lattice multiplied by 0 is none")
        return made_lattice(self.algebra, scaled_grid(grid_in(self), abs(top), bottom))

    def index_in(self, other):
        """The index in another lattice of the algebra, a ratio."""
        check_like(self, other)
        own, there = self.bottom * self.bottom, other.bottom * other.bottom
        return made_ratio(volume(grid_in(self)) * there * there, volume(grid_in(other)) * own * own)

    def holds(self, other):
        """Whether all members of another lattice of the algebra are members."""
        check_like(self, other)
        return has_all(grid_in(self), grid_in(other))

    def left_order(self):
        """The order of all fours x for which x * y is a member for all members y."""
        return made_lattice(self.algebra, left_grid(self.algebra, grid_in(self)))

    def right_order(self):
        """The order of all fours x for which y * x is a member for all members y."""
        return made_lattice(self.algebra, right_grid(self.algebra, grid_in(self)))

    def lattice_norm(self):
        """The ratio above 0 whose multiples are the sums of multiples of the norms of the members."""
        return made_ratio(content_of(pairings(self.algebra, self.rows)), self.bottom * self.bottom)

    def __add__(self, other):
        if not isinstance(other, Lattice):
            return NotImplemented
        check_like(self, other)
        return made_lattice(self.algebra, sum_grid(grid_in(self), grid_in(other)))

    def __and__(self, other):
        if not isinstance(other, Lattice):
            return NotImplemented
        check_like(self, other)
        return made_lattice(self.algebra, meet_grid(grid_in(self), grid_in(other)))

    def __mul__(self, other):
        if not isinstance(other, Lattice):
            return NotImplemented
        check_like(self, other)
        return made_lattice(self.algebra, product_grid(self.algebra, grid_in(self), grid_in(other)))

    def __contains__(self, value):
        if not is_four_of(self.algebra, value):
            return False
        return coordinates(grid_in(self), value.entries, value.bottom) is not None

    def __eq__(self, value):
        return (
            isinstance(value, Lattice) and self.algebra == value.algebra
            and self.bottom == value.bottom and self.rows == value.rows
        )

    def __str__(self):
        return f"{written_rows(self.rows)} over {self.bottom}"


def made_lattice(algebra, grid):
    """The lattice with a grid."""
    made = Lattice(algebra, algebra.basis())
    made.rows = grid[0]
    made.bottom = grid[1]
    return made


def written_rows(rows):
    """The rows with / between them and a blank between integers."""
    return "/".join([" ".join([str(entry) for entry in row]) for row in rows])


def grid_in(lattice):
    """The grid of a lattice."""
    return lattice.rows, lattice.bottom


def check_lattice(value):
    """Refuses what is no lattice."""
    if not isinstance(value, Lattice):
        raise InvalidLattice("no lattice")


def check_like(lattice, other):
    """Refuses what is no lattice of the algebra of a lattice."""
    if not isinstance(other, Lattice) or other.algebra != lattice.algebra:
        raise InvalidLattice("no lattice of the same algebra")


def check_unit(algebra, four):
    """Refuses what is no four of the algebra with a norm other than 0."""
    if not is_four_of(algebra, four) or not four.norm:
        raise InvalidFour("no four of the algebra with a norm other than 0")
