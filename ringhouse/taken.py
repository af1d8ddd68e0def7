"""Ideals taken into primes, and built of ideals."""

from ringhouse.above import above
from ringhouse.errors import TooFar
from ringhouse.ideals import made, whole_ring
from ringhouse.numbers import times
from ringhouse.products import partner, product, raised
from ringhouse.whole import divided_out, parted, to_the


def often(ring, prime, ideal):
    """How often a prime goes into an ideal."""
    return often_by(ring, prime, turn_of(ring, prime), ideal)


def often_by(ring, prime, turn, ideal):
    """How often a prime, whose turn this is, goes into an ideal."""
    p = prime[0][0]
    # Of the ideal's numbers only their rests by this power of p are kept: it is divided by the
    # prime more often than corner 0 is, and so more often than the ideal.
    m = to_the(p, divided_out(ideal[0][0], p)[0] + 1)
    rows = [times(ring, x, turn) for x in ideal]
    many = 0
    while all([c % p == 0 for row in rows for c in row]):
        many += 1
        rows = [times(ring, tuple([c // p % m for c in row]), turn) for row in rows]
    return many


def turn_of(ring, prime):
    """A number whose product with x is divided by p just where the prime, above p, holds x."""
    # The partner's numbers go with the prime into multiples of p. As the prime is not the whole
    # ring, not all of the partner's numbers are such multiples themselves.
    p = prime[0][0]
    return [row for row in partner(ring, prime) if any([c % p != 0 for c in row])][0]


def often_in(ring, prime, x):
    """How often a prime goes into a number."""
    # An ideal holds x just where the ideal made by x is inside it. Nought makes none, and is refused.
    return often(ring, prime, made(ring, [x]))


def taken(ring, ideal):
    """The list of the (P, often): the primes whose product the ideal is."""
    rows, left = parted(ideal[0][0])
    if left > 1:
        raise TooFar("a prime number that is not small divides corner 0")
    primes = [row[0] for p, many in rows for row in above(ring, p)]
    found = [(prime, often(ring, prime, ideal)) for prime in primes]
    return [row for row in found if row[1] > 0]


def built(ring, rows):
    """The product of the ideals of a list of (A, often), each as often as told."""
    found = whole_ring(ring)
    for ideal, many in rows:
        found = product(ring, found, raised(ring, ideal, many))
    return found
