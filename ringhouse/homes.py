"""The home of an ideal and the road to it, in degree two."""

from ringhouse.numbers import number_of, times
from ringhouse.steps import need_two, place_of, table_at, turn_at, way_home
from ringhouse.whole import shared


def home(ring, ideal):
    """The home of an ideal."""
    need_two(ring)
    place, k = place_of(ring, ideal)
    return table_at(way_home(ring, place)[-1])


def road(ring, ideal):
    """The tuple (x, k): x times the ideal is k times its home."""
    need_two(ring)
    place, k = place_of(ring, ideal)
    way = way_home(ring, place)
    # At each place on the way x times the ideal of the first one is its a times the ideal there.
    # So x is a number of the ring all along, and the division leaves nothing over.
    x = number_of(ring, place[0])
    for spot in way[:-1]:
        many = times(ring, x, turn_at(ring, spot))
        x = tuple([c // spot[0] for c in many])
    return lowest(x, place[0] * k)


def lowest(x, k):
    """A number and a whole number without what divides k and both places of x."""
    common = shared(k, shared(x[0], x[1]))
    return (tuple([c // common for c in x]), k // common)
