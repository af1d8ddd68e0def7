"""Products of ideals."""

from ringhouse.ideals import made, whole_ring
from ringhouse.numbers import number_of, times
from ringhouse.quotients import quotient
from ringhouse.stairs import stair


def product(ring, one, other):
    """The least ideal that holds all products of a number of the one and a number of the other."""
    rows = [times(ring, x, y) for x in one for y in other]
    return stair(ring.degree, one[0][0] * other[0][0], rows)


def raised(ring, ideal, k):
    """The ideal to the k-th."""
    found = whole_ring(ring)
    square = ideal
    left = k
    while left > 0:
        if left % 2 == 1:
            found = product(ring, found, square)
        left = left // 2
        # A last square that nothing asks for would be the dearest of all.
        if left > 0:
            square = product(ring, square, square)
    return found


def partner(ring, ideal):
    """The ideal whose product with this one is made by its corner 0."""
    return quotient(ring, made(ring, [number_of(ring, ideal[0][0])]), ideal)
