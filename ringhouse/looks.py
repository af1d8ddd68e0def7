"""Lookers over ideals and numbers: whether what is said of them holds, whoever says it.

Each asks what is cheap first, so that nothing great is reckoned for what can't hold.
"""

from ringhouse.above import above
from ringhouse.errors import TooFar
from ringhouse.ideals import holds, is_ideal, made, size
from ringhouse.numbers import norm, times
from ringhouse.products import product
from ringhouse.small import GREATEST_SIZE, root_of
from ringhouse.taken import taken
from ringhouse.whole import small_primes, to_the


def sees_prime(ring, table):
    """Whether a table is a prime above some small prime."""
    if not is_ideal(ring, table):
        return False
    # The least whole number that a prime above p holds is p.
    p = table[0][0]
    return p in small_primes() and table in [row[0] for row in above(ring, p)]


def sees_taken(ring, table, rows):
    """Whether rows are the primes of an ideal, each with how often, in any order."""
    if not is_ideal(ring, table):
        return False
    # An ideal is the product of primes in one way.
    try:
        due = taken(ring, table)
    except TooFar:
        return False
    return sorted(rows) == sorted(due)


def sees_road(ring, table, other, x, k):
    """Whether x times the one ideal is k times the other."""
    if k < 1 or not is_some_number(ring, x):
        return False
    if not is_ideal(ring, table) or not is_ideal(ring, other):
        return False
    # Of two ideals of one norm, the one inside the other, both are the same.
    if abs(norm(ring, x)) * size(table) != to_the(k, ring.degree) * size(other):
        return False
    due = tuple([tuple([k * c for c in row]) for row in other])
    return all([holds(due, times(ring, x, row)) for row in table])


def sees_small(ring, table, x, other):
    """Whether x is a small number of the ideal, and the other ideal what is left of x."""
    if not is_ideal(ring, table) or not is_ideal(ring, other) or size(table) > GREATEST_SIZE:
        return False
    s = root_of(size(table), ring.degree)
    if not is_some_number(ring, x) or any([abs(c) > s for c in x]) or not holds(table, x):
        return False
    if size(table) * size(other) != abs(norm(ring, x)):
        return False
    return product(ring, table, other) == made(ring, [x])


def sees_unit(ring, x):
    """Whether a row is a number of the ring, and a unit."""
    return len(x) == ring.degree and abs(norm(ring, x)) == 1


def is_some_number(ring, x):
    """Whether a row is a number of the ring, and not nought."""
    return len(x) == ring.degree and any(x)
