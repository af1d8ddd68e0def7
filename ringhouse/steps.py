"""The steps from ideal to ideal by which homes are found, in degree two.

The place (a, r) stands for the ideal of the table ((a, 0), (r, 1)), r being any whole number that
leaves the same rest by a.
"""

from ringhouse.errors import NotTwo
from ringhouse.whole import root


def need_two(ring):
    """Refuse a ring of another degree than two."""
    if ring.degree != 2:
        raise NotTwo("this is told in rings of degree two alone")


def place_of(ring, ideal):
    """The tuple (place, k): the ideal is k times that of the place."""
    k = ideal[1][1]
    return (chosen(ring, ideal[0][0] // k, ideal[1][0] // k), k)


def table_at(place):
    """The table of the ideal of a place."""
    a, r = place
    return ((a, 0), (r % a, 1))


def chosen(ring, a, r):
    """The place (a, r) with r chosen of those that leave the same rest by a."""
    b = ring.poly[1]
    low = -a
    if ring.measure > 0:
        w = root(ring.measure)
        if a <= w:
            low = w - 2 * a
    # u is 2 * r - b, brought to low < u <= low + 2 * a.
    u = low + 1 + (2 * r - b - low - 1) % (2 * a)
    return (a, (u + b) // 2)


def stepped(ring, place):
    """The place to which the step from this one goes."""
    a, r = place
    c, b = ring.poly[0], ring.poly[1]
    return chosen(ring, abs(r * r - b * r + c) // a, b - r)


def turn_at(ring, place):
    """The number whose product with the ideal (a, r) is a times the ideal to which the step goes."""
    return (place[1] - ring.poly[1], -1)


def way_home(ring, place):
    """The list of the places from this one on, each reached by a step, the last one the home."""
    if ring.measure < 0:
        return way_down(ring, place)
    way = [place]
    while not on_wheel(ring, way[-1]):
        way.append(stepped(ring, way[-1]))
    wheel = wheel_from(ring, way[-1])
    best = min([table_at(spot) for spot in wheel])
    for spot in wheel[1:]:
        if table_at(way[-1]) == best:
            break
        way.append(spot)
    return way


def way_down(ring, place):
    """The way home where the measure is below 0."""
    way = [place]
    further = stepped(ring, place)
    while further[0] < way[-1][0]:
        way.append(further)
        further = stepped(ring, further)
    if further[0] == way[-1][0] and table_at(further) < table_at(way[-1]):
        way.append(further)
    return way


def on_wheel(ring, place):
    """Whether a place is on a wheel, the measure being above 0."""
    a, r = place
    w = root(ring.measure)
    return a <= w and 2 * a - (2 * r - ring.poly[1]) <= w


def wheel_from(ring, place):
    """The list of the places of a wheel, each reached by a step, from this one on."""
    wheel = [place]
    further = stepped(ring, place)
    while further != place:
        wheel.append(further)
        further = stepped(ring, further)
    return wheel
