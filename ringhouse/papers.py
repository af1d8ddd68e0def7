"""The papers of a ring: what shows that it is whole."""

from ringhouse.polys import poly_parted
from ringhouse.split import split_by
from ringhouse.whole import small_primes


def papers(ring):
    """The list of the (p, parts), parts a list of (g, often, rest)."""
    return papers_of(ring.poly, ring.measure)


def papers_of(poly, size):
    """The papers of a ring's polynomial whose measure is size."""
    return [(p, parts_at(poly, p)) for p in small_primes() if size % (p * p) == 0]


def parts_at(poly, p):
    """The split of poly by p, each part with the rest of poly by it."""
    return [(g, often, poly_parted(poly, g)[1]) for g, often in split_by(poly, p)]


def outside_of(poly, rows):
    """By the papers rows: a tuple (p, f) such that f at t, divided by p, is whole and outside; or None."""
    for p, parts in rows:
        for g, often, rest in parts:
            if often >= 2 and all([c % (p * p) == 0 for c in rest]):
                return (p, poly_parted(poly, g)[0])
    return None
