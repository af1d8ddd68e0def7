"""Lookers over polynomials: whether what is said of one holds, whoever says it."""

from ringhouse.apart import apart
from ringhouse.errors import RingError
from ringhouse.forms import is_ring_poly
from ringhouse.numbers import own
from ringhouse.papers import papers
from ringhouse.polys import poly_times
from ringhouse.ring import Ring
from ringhouse.split import split_by
from ringhouse.whole import small_primes, to_the


class Plan:
    """A ring's polynomial and its degree: so much of a ring as reckoning with its numbers asks for."""

    def __init__(self, poly):
        self.poly = poly
        self.degree = len(poly) - 1


def sees_apart(poly, left, right):
    """Whether left and right show that poly falls apart."""
    if not is_ring_poly(poly) or not is_factor(left) or not is_factor(right):
        return False
    # Asked first, so that no product of great length is reckoned.
    if len(left) + len(right) != len(poly) + 1:
        return False
    return poly_times(left, right) == poly


def is_factor(row):
    """Whether a row is a monic polynomial of a degree from 1 on."""
    return len(row) > 1 and row[-1] == 1


def sees_split(poly, p, parts):
    """Whether parts are the split of poly by p, in any order."""
    if not is_ring_poly(poly) or p not in small_primes():
        return False
    return sorted(parts) == sorted(split_by(poly, p))


def sees_outside(poly, p, x):
    """Whether x / p is whole and not within the ring of poly."""
    if not is_ring_poly(poly) or p not in small_primes():
        return False
    if len(x) != len(poly) - 1 or apart(poly) is not None:
        return False
    # Multiples of p, divided by p, are within the ring: they change nothing of what is asked.
    low = tuple([c % p for c in x])
    return any(low) and is_whole_by(poly, p, low)


def is_whole_by(poly, p, x):
    """Whether x / p is whole, poly not falling apart."""
    # The own polynomial of x / p has place i of that of x, divided by p as often as i is below the
    # degree; x / p is whole just where these are whole.
    n = len(poly) - 1
    places = own(Plan(poly), x)
    return all([places[i] % to_the(p, n - i) == 0 for i in range(n)])


def sees_whole(poly, rows):
    """Whether poly makes a ring, and rows are its papers, in any order."""
    try:
        ring = Ring(poly)
    except RingError:
        return False
    return in_order(rows) == in_order(papers(ring))


def in_order(rows):
    """Papers in one order, their parts too."""
    return sorted([(p, sorted(parts)) for p, parts in rows])
