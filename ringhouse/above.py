"""The primes above a small prime."""

from ringhouse.ideals import made
from ringhouse.numbers import number_of
from ringhouse.polys import padded, poly_parted
from ringhouse.split import split_by


def above(ring, p):
    """The list of the (P, often, degree)."""
    return [(prime_of(ring, p, g), often, len(g) - 1) for g, often in split_by(ring.poly, p)]


def prime_of(ring, p, g):
    """The prime that is made by p and by g at t."""
    return made(ring, [number_of(ring, p), at_root(ring, g)])


def at_root(ring, f):
    """The polynomial f at t, a number."""
    return padded(poly_parted(f, ring.poly)[1], ring.degree)
