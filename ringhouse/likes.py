"""Which ideals are alike up to a number, and which are made by one number, in degree two."""

from ringhouse.homes import home, lowest, road
from ringhouse.ideals import whole_ring
from ringhouse.numbers import mate, norm, times
from ringhouse.steps import need_two


def alike(ring, one, other):
    """The tuple (x, k): x times the one is k times the other; None where they are not alike."""
    need_two(ring)
    if home(ring, one) != home(ring, other):
        return None
    x, k = road(ring, one)
    y, m = road(ring, other)
    # Both come to the same home H, x times the one as k H, y times the other as m H. So m x times
    # the one is k y times the other, and with the mate of y there stands a whole number for y.
    many = tuple([m * c for c in times(ring, x, mate(ring, y))])
    return lowest(many, k * abs(norm(ring, y)))


def maker(ring, ideal):
    """A number that makes the ideal by itself; None where there is none."""
    # x times the whole ring is k times the ideal: so k divides x, and as nothing divides both, k is 1.
    found = alike(ring, whole_ring(ring), ideal)
    return None if found is None else found[0]
