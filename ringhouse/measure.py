"""The measure of a ring's polynomial."""

from ringhouse.forms import need_ring_poly
from ringhouse.tables import det


def measure(poly):
    """The product of the squares of the differences of the roots."""
    need_ring_poly(poly)
    n = len(poly) - 1
    sums = root_sums(poly, 2 * n - 1)
    return det(tuple([tuple(sums[i:i + n]) for i in range(n)]))


def root_sums(poly, many):
    """The sums of the k-th powers of the roots, k from 0 to many - 1, by Newton's sums."""
    n = len(poly) - 1
    sums = [n]
    for k in range(1, many):
        total = sum([poly[n - i] * sums[k - i] for i in range(1, min(k - 1, n) + 1)])
        if k <= n:
            total += k * poly[n - k]
        sums.append(-total)
    return sums
