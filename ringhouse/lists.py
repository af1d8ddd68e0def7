"""All ideals of a norm."""

from ringhouse.above import above
from ringhouse.errors import TooGreat
from ringhouse.ideals import whole_ring
from ringhouse.products import product, raised
from ringhouse.whole import parted

GREATEST_NORM = 99


def of_norm(ring, m):
    """The list of all ideals of the norm m, in the order of the tables."""
    if m > GREATEST_NORM:
        raise TooGreat("ideals are listed for norms up to 99")
    if m < 1:
        return []
    # An ideal is in one way a product of ideals of which each has a power of one prime number as
    # its norm. All prime numbers up to the bound are small.
    found = [whole_ring(ring)]
    for p, many in parted(m)[0]:
        powers = of_power(ring, p, many)
        found = [product(ring, one, other) for one in found for other in powers]
    return sorted(found)


def of_power(ring, p, k):
    """The list of all ideals whose norm is a small prime p taken k times."""
    found = [(whole_ring(ring), 0)]
    for prime, often, degree in above(ring, p):
        powers = [(raised(ring, prime, j), j * degree) for j in range(k // degree + 1)]
        found = [
            (product(ring, ideal, power), used + more)
            for ideal, used in found for power, more in powers if used + more <= k
        ]
    return [ideal for ideal, used in found if used == k]
