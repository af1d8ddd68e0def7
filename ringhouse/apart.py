"""Whether a ring's polynomial is a product."""

from ringhouse.forms import need_ring_poly
from ringhouse.polys import poly_at, poly_parted
from ringhouse.whole import root


def apart(poly):
    """None, or a tuple (left, right) of monic polynomials whose product poly is."""
    need_ring_poly(poly)
    # As poly is monic, it is a product just where it is one of two monic polynomials. Up to
    # degree 4 the one of lower degree has degree 1 or 2, and its place 0 divides poly's.
    pair = line_and_rest(poly)
    if pair is None and len(poly) == 5:
        pair = two_by_two(poly)
    return pair


def dividers(m):
    """The whole numbers of either sign that divide m; of nought, nought alone."""
    # Where place 0 is nought, nought is a root: no other divider is asked for.
    if m == 0:
        return [0]
    found = []
    for d in range(1, abs(m) + 1):
        if m % d == 0:
            found.append(d)
            found.append(-d)
    return found


def line_and_rest(poly):
    """A monic polynomial of degree 1 that divides poly, and the quotient; None where none does."""
    for z in dividers(poly[0]):
        if poly_at(poly, z) == 0:
            left = (-z, 1)
            return (left, poly_parted(poly, left)[0])
    return None


def two_by_two(poly):
    """Two monic polynomials of degree 2 whose product is poly, whose place 0 is not 0; or None."""
    for v in dividers(poly[0]):
        w = poly[0] // v
        # Of (v, u, 1) times (w, s, 1), places 2 and 3 tell the product and the sum of u and s.
        for u in two_with(poly[3], poly[2] - v - w):
            s = poly[3] - u
            if u * w + v * s == poly[1]:
                return ((v, u, 1), (w, s, 1))
    return None


def two_with(total, times):
    """The two whole numbers with this sum and this product; the empty list where there are none."""
    square = total * total - 4 * times
    if square < 0:
        return []
    gap = root(square)
    if gap * gap != square:
        return []
    return [(total + gap) // 2, (total - gap) // 2]
