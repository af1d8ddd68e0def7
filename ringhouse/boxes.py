"""The numbers of an ideal in a box."""

from ringhouse.errors import TooGreat
from ringhouse.ideals import holds
from ringhouse.numbers import norm

GREATEST_REACH = {2: 9, 3: 3, 4: 2}


def boxed(ring, ideal, reach, m):
    """The list of the ideal's numbers with places from -reach to reach and the norm m, sign aside."""
    if reach > GREATEST_REACH[ring.degree]:
        raise TooGreat("the box is greater than the bound for this degree")
    return [x for x in rows_within(reach, ring.degree) if holds(ideal, x) and abs(norm(ring, x)) == m]


def rows_within(reach, n):
    """The list of all rows of n places from -reach to reach, in their order; none where reach is below 0."""
    rows = [()]
    for step in range(n):
        rows = [row + (c,) for row in rows for c in range(-reach, reach + 1)]
    return rows
