"""The units of a ring of degree two."""

from ringhouse.errors import Endless, NoBasic, NotUnit
from ringhouse.ideals import whole_ring
from ringhouse.numbers import mate, norm, number_of, times
from ringhouse.steps import need_two, place_of, turn_at, wheel_from
from ringhouse.whole import root


def units(ring):
    """The list of all units, the measure being below 0."""
    need_two(ring)
    if ring.measure > 0:
        raise Endless("a ring with a measure above 0 has no end of units")
    # Four times the norm of (p, q) is the square of 2 * p - b * q less the measure times q * q: as
    # the measure is -3 or below, q is from -1 to 1.
    found = []
    for q in range(-1, 2):
        square = 4 + ring.measure * q * q
        if square >= 0:
            gap = root(square)
            middle = ring.poly[1] * q
            found.extend([((middle - gap) // 2, q), ((middle + gap) // 2, q)])
    return [x for x in sorted(set(found)) if is_unit(ring, x)]


def is_unit(ring, x):
    """Whether a number is a unit."""
    return abs(norm(ring, x)) == 1


def basic(ring):
    """The basic unit, the measure being above 0."""
    need_two(ring)
    if ring.measure < 0:
        raise NoBasic("a ring with a measure below 0 has no basic unit")
    x = number_of(ring, 1)
    # At each place of the wheel x is a number that makes a times the ideal there: the division
    # leaves nothing over.
    for spot in wheel_from(ring, place_of(ring, whole_ring(ring))[0]):
        many = times(ring, x, turn_at(ring, spot))
        x = tuple([c // spot[0] for c in many])
    return upright(ring, x)


def upright(ring, unit):
    """Of a unit, its mate, and both with all signs turned, the one that is as a basic unit is."""
    # The mate of (p, q) has the other q and the same 2 * p - b * q.
    b = ring.poly[1]
    gap = abs(2 * unit[0] - b * unit[1])
    q = abs(unit[1])
    return ((gap + b * q) // 2, q)


def as_power(ring, unit):
    """The tuple (s, k): the unit is s times the basic unit to the k-th."""
    step = basic(ring)
    if not is_unit(ring, unit):
        raise NotUnit("the number is no unit")
    gap = 2 * unit[0] - ring.poly[1] * unit[1]
    # Powers of the basic unit from the 0-th on have neither q nor 2 * p - b * q below 0, the others
    # have one of the two, and a sign turns both.
    if gap * unit[1] < 0:
        sign, k = as_power(ring, turned_over(ring, unit))
        return (sign, -k)
    sign = 1 if gap > 0 else -1
    due = tuple([sign * c for c in unit])
    x, k = number_of(ring, 1), 0
    while x != due:
        x = times(ring, x, step)
        k += 1
    return (sign, k)


def turned_over(ring, unit):
    """The number whose product with the unit is 1."""
    sign = norm(ring, unit)
    return tuple([sign * c for c in mate(ring, unit)])
