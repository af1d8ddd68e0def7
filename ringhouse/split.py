"""Monic polynomials of degree 1 to 4 split modulo a small prime."""

from ringhouse.errors import NoPrime
from ringhouse.modp import mod_parted, mod_poly
from ringhouse.polys import poly_at
from ringhouse.whole import small_primes


def split_by(poly, p):
    """The list of the (g, often): the monic polynomials that stay whose product poly is modulo p."""
    if p not in small_primes():
        raise NoPrime("a split needs a small prime")
    parts, left = lines_out(mod_poly(poly, p), p)
    return parts + rootless_parts(left, p)


def stays(poly, p):
    """Whether poly is not the product modulo p of two monic polynomials of degrees from 1 on."""
    parts = split_by(poly, p)
    return len(parts) == 1 and parts[0][1] == 1


def lines_out(f, p):
    """The parts of degree 1 in their order, and what is left of f without them."""
    parts = []
    left = f
    for c in range(p):
        often = 0
        # What is left is monic: at the latest at degree 0, where it is 1, this ends.
        while poly_at(left, -c) % p == 0:
            left = mod_parted(left, (c, 1), p)[0]
            often += 1
        if often > 0:
            parts.append(((c, 1), often))
    return (parts, left)


def rootless_parts(f, p):
    """The parts of a monic polynomial without parts of degree 1."""
    if len(f) == 1:
        return []
    # Without a part of degree 1, only degree 4 can still be a product: of two of degree 2.
    pair = two_by_two(f, p) if len(f) == 5 else []
    if len(pair) == 0:
        return [(f, 1)]
    if pair[0] == pair[1]:
        return [(pair[0], 2)]
    return [(g, 1) for g in sorted(pair)]


def two_by_two(f, p):
    """Two monic polynomials of degree 2 whose product is f, of degree 4; none: the empty list."""
    for u in range(p):
        # Of (v, u, 1) times (w, s, 1), places 3 and 2 tell s, and w by v.
        s = (f[3] - u) % p
        total = f[2] - u * s
        for v in range(p):
            w = (total - v) % p
            if v * w % p == f[0] and (u * w + v * s) % p == f[1]:
                return [(v, u, 1), (w, s, 1)]
    return []
