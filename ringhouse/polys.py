"""Polynomials with whole places: rows whose last place is not 0."""


def cut(row):
    """The row without the noughts at its end."""
    size = len(row)
    while size > 0 and row[size - 1] == 0:
        size -= 1
    return row[:size]


def padded(row, size):
    """The row with noughts behind it, up to size places."""
    return row + (0,) * (size - len(row))


def poly_plus(f, g):
    """The sum of two polynomials."""
    size = max(len(f), len(g))
    return cut(tuple([a + b for a, b in zip(padded(f, size), padded(g, size))]))


def poly_less(f, g):
    """The first polynomial less the second one."""
    return poly_plus(f, tuple([-c for c in g]))


def poly_times(f, g):
    """The product of two polynomials."""
    places = [0] * (len(f) + len(g))
    for i, a in enumerate(f):
        for j, b in enumerate(g):
            places[i + j] += a * b
    return cut(tuple(places))


def poly_parted(f, g):
    """The tuple (quotient, rest) of a polynomial parted by a monic one."""
    degree = len(g) - 1
    size = max(0, len(f) - degree)
    left = list(f)
    quotient = [0] * size
    # From the top down each place of the quotient is what stands there, as g is monic.
    for at in reversed(range(size)):
        many = left[at + degree]
        quotient[at] = many
        for j, c in enumerate(g):
            left[at + j] -= many * c
    return (cut(tuple(quotient)), cut(tuple(left)))


def poly_at(f, z):
    """The value of a polynomial at a whole number."""
    value = 0
    for c in reversed(f):
        value = value * z + c
    return value
