"""What a ring's polynomial is."""

from ringhouse.errors import NoPolynomial

GREATEST_PLACE = 499


def is_ring_poly(row):
    """Whether a row of whole numbers, of any length, is a ring's polynomial."""
    if len(row) < 3 or len(row) > 5 or row[-1] != 1:
        return False
    return all([abs(c) <= GREATEST_PLACE for c in row])


def need_ring_poly(row):
    """Refuse a row that is no ring's polynomial."""
    if not is_ring_poly(row):
        raise NoPolynomial("a ring's polynomial is monic, of degree 2 to 4, with places from -499 to 499")
