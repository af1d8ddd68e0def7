"""Ideals of a ring, told by their stair tables."""

from ringhouse.errors import Nought
from ringhouse.numbers import norm, t_times, table_of
from ringhouse.stairs import is_stair, rest, stair
from ringhouse.whole import shared


def whole_ring(ring):
    """The ideal of all numbers."""
    return stair(ring.degree, 1, [])


def made(ring, numbers):
    """The ideal made by a list of numbers."""
    # An ideal that holds x holds its norm too, the product of x and its mate; only nought has the
    # norm 0.
    m = 0
    rows = []
    for x in numbers:
        m = shared(m, norm(ring, x))
        rows.extend(table_of(ring, x))
    if m == 0:
        raise Nought("nought alone makes no ideal")
    return stair(ring.degree, m, rows)


def is_ideal(ring, table):
    """Whether a tuple of rows, of any number and any lengths, is an ideal of the ring."""
    if not is_stair(table, ring.degree):
        return False
    return all([holds(table, t_times(ring, row)) for row in table])


def holds(ideal, x):
    """Whether an ideal holds a number."""
    return not any(rest(ideal, x))


def inside(one, other):
    """Whether the first ideal is inside the second one."""
    return all([holds(other, row) for row in one])


def size(ideal):
    """The norm of an ideal."""
    value = 1
    for i, row in enumerate(ideal):
        value = value * row[i]
    return value


def joined(one, other):
    """The least ideal that holds all numbers of both."""
    return stair(len(one), shared(one[0][0], other[0][0]), list(one + other))
