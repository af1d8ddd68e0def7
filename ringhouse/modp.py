"""Polynomials modulo a small prime p, told with places from 0 to p - 1."""

from ringhouse.polys import cut, poly_parted, poly_times


def mod_poly(row, p):
    """Any row brought to a polynomial modulo p."""
    return cut(tuple([c % p for c in row]))


def mod_times(a, b, p):
    """The product of two polynomials modulo p."""
    return mod_poly(poly_times(mod_poly(a, p), mod_poly(b, p)), p)


def mod_parted(a, b, p):
    """The tuple (quotient, rest) of a parted by b, which is not nought modulo p."""
    low = mod_poly(b, p)
    turn = inverse_of(low[-1], p)
    # Parting by whole places needs a monic polynomial; the quotient is turned back behind it.
    quotient, rest = poly_parted(mod_poly(a, p), scaled(low, turn, p))
    return (scaled(quotient, turn, p), mod_poly(rest, p))


def mod_shared(a, b, p):
    """The monic polynomial of greatest degree that divides both; the empty row of two noughts."""
    great, low = mod_poly(a, p), mod_poly(b, p)
    while len(low) > 0:
        great, low = low, mod_parted(great, low, p)[1]
    if len(great) == 0:
        return great
    return scaled(great, inverse_of(great[-1], p), p)


def scaled(f, k, p):
    """The polynomial k times f modulo p."""
    return mod_poly(tuple([k * c for c in f]), p)


def inverse_of(c, p):
    """The number whose product with c leaves the rest 1 by p."""
    # Fermat: c to the (p - 1)-th leaves the rest 1, so c to the (p - 2)-th undoes c.
    value = 1
    for step in range(p - 2):
        value = value * c % p
    return value
