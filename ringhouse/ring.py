"""The ring that a root t of a polynomial makes."""

from ringhouse.apart import apart
from ringhouse.errors import FallsApart, NotWhole, TooGreat
from ringhouse.forms import need_ring_poly
from ringhouse.measure import measure
from ringhouse.papers import outside_of, papers_of
from ringhouse.polys import padded

GREATEST_MEASURE = 39999


class Ring:
    """A whole ring; its fields are poly, degree and measure."""

    def __init__(self, poly):
        need_ring_poly(poly)
        need_together(poly)
        size = measure(poly)
        if abs(size) > GREATEST_MEASURE:
            raise TooGreat("a ring's measure is from -39,999 to 39,999")
        need_whole(poly, size)
        self.poly = poly
        self.degree = len(poly) - 1
        self.measure = size


def need_together(poly):
    """Refuse a polynomial that falls apart."""
    pair = apart(poly)
    if pair is not None:
        raise FallsApart(pair[0], pair[1])


def need_whole(poly, size):
    """Refuse a polynomial, of the measure size, whose ring is not whole."""
    found = outside_of(poly, papers_of(poly, size))
    if found is not None:
        p, f = found
        # Multiples of p may go from each place: divided by p they are within the ring. The last
        # place of f is 1, so some place stays.
        raise NotWhole(p, padded(tuple([c % p for c in f]), len(poly) - 1))
