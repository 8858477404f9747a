"""The texts of algebras, fours and lattices, and how they are read."""

from signfours.base.numbers import MAX_NUMBER
from signfours.base.ratios import is_digits
from signfours.errors import ParseError
from signfours.four.fours import Algebra, check_algebra, check_four, made_four
from signfours.order.grids import grid_of
from signfours.order.lattices import check_lattice, made_lattice

LONGEST = 60


def write_algebra(algebra):
    """The text of an algebra, such as (-1, -11)."""
    check_algebra(algebra)
    return str(algebra)


def write_four(four):
    """The text of a four, such as (-1, -1): 1 1 1 1/2."""
    check_four(four)
    return f"{four.algebra}: {written_entries(four.entries)}{written_bottom(four.bottom)}"


def write_lattice(lattice):
    """The text of a lattice, such as (-1, -1): 1 1 1 1; 0 2 0 0; 0 0 2 0; 0 0 0 2/2."""
    check_lattice(lattice)
    rows = "; ".join([written_entries(row) for row in lattice.rows])
    return f"{lattice.algebra}: {rows}{written_bottom(lattice.bottom)}"


def read_algebra(text):
    """The algebra with this text."""
    check_text(text)
    numbers = read_numbers(text)
    if numbers is None:
        raise ParseError(0)
    if not are_numbers(numbers):
        raise ParseError(1)
    return Algebra(numbers[0], numbers[1])


def read_four(text):
    """The four with this text."""
    check_text(text)
    algebra, rows, bottom = read_rows(text, 1)
    made = made_four(algebra, rows[0], bottom)
    if made.bottom != bottom:
        raise ParseError(2)
    return made


def read_lattice(text):
    """The lattice with this text."""
    check_text(text)
    algebra, rows, bottom = read_rows(text, 4)
    if grid_of(rows, bottom) != (rows, bottom):
        raise ParseError(2)
    return made_lattice(algebra, (rows, bottom))


def written_entries(entries):
    """The entries with single blanks between them."""
    return " ".join([str(entry) for entry in entries])


def written_bottom(bottom):
    """What stands behind the entries: nothing for the bottom 1."""
    return "" if bottom == 1 else f"/{bottom}"


def check_text(value):
    """Refuses what is no string."""
    if not isinstance(value, str):
        raise ParseError(None)


def read_numbers(text):
    """The two integers in brackets, or None."""
    if not text.startswith("(") or not text.endswith(")"):
        return None
    return read_integers(text[1:-1].split(", "), 2)


def are_numbers(integers):
    """Whether there is an algebra with these integers."""
    return all([0 < abs(part) <= MAX_NUMBER for part in integers])


def read_rows(text, many):
    """The algebra, the tuple of so many rows of four integers and the bottom that a text tells."""
    head, mark, tail = text.partition(": ")
    numbers = read_numbers(head)
    if not mark or numbers is None or not are_numbers(numbers):
        raise ParseError(0)
    body, slash, under = tail.partition("/")
    rows = [read_integers(row.split(" "), 4) for row in body.split("; ")]
    bottom = read_integer(under) if slash else 1
    if len(rows) != many or None in rows or bottom is None or (slash and bottom < 2):
        raise ParseError(1)
    return Algebra(numbers[0], numbers[1]), tuple(rows), bottom


def read_integers(words, many):
    """The tuple of so many integers that are written so, or None."""
    found = [read_integer(word) for word in words]
    return None if len(found) != many or None in found else tuple(found)


def read_integer(word):
    """The integer of at most sixty digits that is written so, or None."""
    digits = word.removeprefix("-")
    if not is_digits(digits) or len(digits) > LONGEST or str(int(word)) != word:
        return None
    return int(word)
