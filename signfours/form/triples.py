"""Forms in three unknowns: their values, short triples of vectors, and tables between forms.

A form is a tuple (a, b, c, d, e, f), which stands for a x x + b y y + c z z + d y z + e x z + f x y.
A vector is a triple of integers.
"""

from signfours.order.shorts import point_counts, points_of

VECTORS = ((1, 0, 0), (0, 1, 0), (0, 0, 1))


def value_at(form, vector):
    """The value of a form at a vector."""
    a, b, c, d, e, f = form
    x, y, z = vector
    return x * (a * x + e * z + f * y) + y * (b * y + d * z) + c * z * z


def mixed_at(form, one, other):
    """What the value at the sum of two vectors is more than the sum of both values."""
    a, b, c, d, e, f = form
    x, y, z = one
    s, t, u = other
    return x * (2 * a * s + f * t + e * u) + y * (f * s + 2 * b * t + d * u) + z * (e * s + d * t + 2 * c * u)


def form_on(form, vectors):
    """The form whose value at x, y, z is that of a form at x, y, z times three vectors, added up."""
    first, second, third = vectors
    return (
        value_at(form, first), value_at(form, second), value_at(form, third),
        mixed_at(form, second, third), mixed_at(form, first, third), mixed_at(form, first, second),
    )


def discriminant_at(values):
    """The discriminant of a tuple of six integers."""
    a, b, c, d, e, f = values
    return 4 * a * b * c + d * e * f - a * d * d - b * e * e - c * f * f


def is_above_zero(values):
    """Whether a tuple of six integers has values above 0 alone, but at 0, 0, 0."""
    a, b, c, d, e, f = values
    return a > 0 and 4 * a * b - f * f > 0 and discriminant_at(values) > 0


def short_vectors(form):
    """Three vectors that make all vectors, with ascending values that are the least there can be."""
    vectors = list(VECTORS)
    while True:
        ranked = sorted([(value_at(form, vector), vector) for vector in vectors])
        first, second, third = [vector for _, vector in ranked]
        second = nearest_by(form, second, first)
        if value_at(form, second) >= ranked[0][0]:
            third = nearest_by_two(form, third, first, second)
            if value_at(form, third) >= value_at(form, second):
                return [first, second, third]
        vectors = [first, second, third]


def nearest_by(form, vector, other):
    """The vector plus the multiple of another one that makes its value least."""
    length = value_at(form, other)
    return plus(vector, (length - mixed_at(form, vector, other)) // (2 * length), other)


def nearest_by_two(form, vector, first, second):
    """The vector plus multiples of two others, which are short, that make its value least."""
    length, mixed = 2 * value_at(form, first), mixed_at(form, first, second)
    wide = length * 2 * value_at(form, second) - mixed * mixed
    # The best multiple of the second vector is beside the fraction that would be best.
    many = (mixed * mixed_at(form, vector, first) - length * mixed_at(form, vector, second)) // wide
    tried = [nearest_by(form, plus(vector, many + more, second), first) for more in (0, 1)]
    return tried[0] if value_at(form, tried[0]) <= value_at(form, tried[1]) else tried[1]


def plus(vector, many, other):
    """A vector plus a multiple of another one."""
    return vector[0] + many * other[0], vector[1] + many * other[1], vector[2] + many * other[2]


def wide_table(form, most):
    """The pairings of four rows: three with the values of a form, and one above a bound that stands alone."""
    a, b, c, d, e, f = form
    return [[2 * a, f, e, 0], [f, 2 * b, d, 0], [e, d, 2 * c, 0], [0, 0, 0, 2 * most + 2]]


def vectors_with(form, value):
    """The list of the vectors at which a form has a value; it is quick for forms of short vectors."""
    return [point[:3] for point in points_of(wide_table(form, value), value)]


def counts_of(form, most):
    """The list of the numbers of the vectors with the values from 0 to a bound."""
    return point_counts(wide_table(form_on(form, short_vectors(form)), most), most)


def lead_of(one, other):
    """The rows of a table of the determinant 1 that leads a form to another one, or None."""
    own, there = short_vectors(one), short_vectors(other)
    start, target = form_on(one, own), form_on(other, there)
    found = same_vectors(start, target)
    if found is None:
        return None
    # The table takes the short vectors of the other form to these vectors of the first one.
    images = [summed(vector, own) for vector in found]
    back = inverse_rows(there)
    rows = [[sum([image[at] * row[to] for image, row in zip(images, back)]) for to in range(3)] for at in range(3)]
    sign = determinant(rows)
    return tuple([tuple([sign * entry for entry in row]) for row in rows])


def same_vectors(form, target):
    """Three vectors on which a form of short vectors is another such form, or None."""
    # The values of short vectors are told by all vectors that there are.
    if form[:3] != target[:3]:
        return None
    firsts, seconds, thirds = [vectors_with(form, value) for value in target[:3]]
    for first in firsts:
        for second in seconds:
            if mixed_at(form, first, second) == target[5]:
                for third in thirds:
                    if mixed_at(form, first, third) == target[4] and mixed_at(form, second, third) == target[3]:
                        return first, second, third
    return None


def summed(vector, vectors):
    """The sum of three vectors, each one multiplied by an integer of a vector."""
    return plus(plus(plus((0, 0, 0), vector[0], vectors[0]), vector[1], vectors[1]), vector[2], vectors[2])


def inverse_rows(columns):
    """The rows of the inverse of the table with these columns, whose determinant is 1 or -1."""
    first, second, third = columns
    sign = determinant(columns)
    rows = (crossed(second, third), crossed(third, first), crossed(first, second))
    return [[sign * entry for entry in row] for row in rows]


def crossed(one, other):
    """The vector that tells the determinants with two others."""
    return (
        one[1] * other[2] - one[2] * other[1], one[2] * other[0] - one[0] * other[2],
        one[0] * other[1] - one[1] * other[0],
    )


def determinant(rows):
    """The determinant of three rows."""
    return sum([entry * there for entry, there in zip(rows[0], crossed(rows[1], rows[2]))])
