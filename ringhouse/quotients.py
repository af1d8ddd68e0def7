"""Quotients and colons of ideals."""

from ringhouse.double import doubled, front
from ringhouse.errors import NotHeld
from ringhouse.ideals import inside, whole_ring
from ringhouse.numbers import times


def quotient(ring, one, other):
    """The ideal whose product with the other one is the first."""
    if not inside(one, other):
        raise NotHeld("the first ideal is not inside the second")
    # As the ring is whole, the other one has a true inverse, and the colon is the product with it.
    return colon(ring, one, other)


def colon(ring, one, other):
    """The ideal of all numbers whose products with each number of the other one the first holds."""
    found = whole_ring(ring)
    for y in other:
        images = [times(ring, x, y) for x in found]
        found = front(doubled(one[0][0], found, images, one))
    return found
