"""What several tests need: reckonings that go another way than the program's, and samples."""

import itertools
import random
from fractions import Fraction

RINGS = (
    (1, 0, 1), (-1, 1, 1), (5, 0, 1), (-3, 0, 1), (-99, 199, 1), (499, 1, 1), (-10, 0, 1),
    (-2, 0, 0, 1), (1, -1, 0, 1), (-1, -2, 1, 1), (-47, -17, 0, 1), (-198, -65, 0, 1),
    (1, 0, 0, 0, 1), (1, 1, 1, 1, 1), (-1, -1, 0, 0, 1), (2, 0, 0, 0, 1),
    (15, -12, -4, 2, 1),
)


def maker(seed):
    """A source of numbers that are the same in each run."""
    return random.Random(seed)


def refused(call, *things):
    """The refusal of a call, or None where it answers."""
    try:
        call(*things)
    except ValueError as refusal:
        return refusal
    return None


def brute_det(table):
    total = 0
    for order in itertools.permutations(range(len(table))):
        sign = 1
        for i, j in itertools.combinations(range(len(table)), 2):
            if order[i] > order[j]:
                sign = -sign
        for i, j in enumerate(order):
            sign *= table[i][j]
        total += sign
    return total


def brute_product(f, g):
    """The product of two rows, with every nought at its end."""
    places = [0] * max(0, len(f) + len(g) - 1)
    for i, a in enumerate(f):
        for j, b in enumerate(g):
            places[i + j] += a * b
    return tuple(places)


def brute_times(poly, x, y):
    """The product of two numbers of the ring of poly."""
    n = len(poly) - 1
    places = list(brute_product(x, y))
    for at in range(len(places) - 1, n - 1, -1):
        many = places[at]
        for j in range(n + 1):
            places[at - n + j] -= many * poly[j]
    return tuple(places[:n])


def brute_table(poly, x):
    n = len(poly) - 1
    return [brute_times(poly, tuple(int(j == i) for j in range(n)), x) for i in range(n)]


def brute_norm(poly, x):
    return brute_det(brute_table(poly, x))


def brute_own(poly, x):
    """The places of the own polynomial, from its values at 0 to n."""
    n = len(poly) - 1
    total = [Fraction(0)] * (n + 1)
    for z in range(n + 1):
        value = Fraction(brute_norm(poly, tuple(z * int(i == 0) - c for i, c in enumerate(x))))
        base = (Fraction(1),)
        for other in range(n + 1):
            if other != z:
                value /= z - other
                base = brute_product(base, (Fraction(-other), Fraction(1)))
        for i, c in enumerate(base):
            total[i] += value * c
    assert all(c.denominator == 1 for c in total)
    return tuple(int(c) for c in total)


def brute_is_whole(poly, p, x):
    """Whether x / p is a root of a monic polynomial with whole places."""
    n = len(poly) - 1
    return all(c % p ** (n - i) == 0 for i, c in enumerate(brute_own(poly, x)))


def brute_outside(poly, p):
    """All x with places from 0 to p - 1, not all 0, such that x / p is whole."""
    n = len(poly) - 1
    rows = itertools.product(range(p), repeat=n)
    return [x for x in rows if any(x) and brute_is_whole(poly, p, x)]
