"""Numbers of a ring: rows of as many places as its degree."""

from ringhouse.errors import NotHeld, Nought
from ringhouse.polys import padded
from ringhouse.tables import det


def add(ring, x, y):
    """The sum of two numbers."""
    return tuple([a + b for a, b in zip(x, y)])


def less(ring, x, y):
    """The number x less y."""
    return tuple([a - b for a, b in zip(x, y)])


def times(ring, x, y):
    """The product of two numbers."""
    n = ring.degree
    table = table_of(ring, x)
    return tuple([sum([y[i] * table[i][j] for i in range(n)]) for j in range(n)])


def power(ring, x, k):
    """The product of x taken k times."""
    made = number_of(ring, 1)
    for step in range(k):
        made = times(ring, made, x)
    return made


def number_of(ring, k):
    """The whole number k as a number of the ring."""
    return padded((k,), ring.degree)


def t_times(ring, x):
    """The product of t and x."""
    # t to the n-th is what poly says of it: the last place of x goes round to the places below.
    last = x[-1]
    moved = (0,) + x[:-1]
    return tuple([moved[i] - last * ring.poly[i] for i in range(ring.degree)])


def table_of(ring, x):
    """The table of n rows, row i the places of t ** i times x."""
    rows = [x]
    for step in range(ring.degree - 1):
        rows.append(t_times(ring, rows[-1]))
    return tuple(rows)


def norm(ring, x):
    """The determinant of the table of x."""
    return det(table_of(ring, x))


def trace(ring, x):
    """The sum of place i of row i of the table of x."""
    table = table_of(ring, x)
    return sum([table[i][i] for i in range(ring.degree)])


def own(ring, x):
    """The monic polynomial of degree n whose value at z is the norm of z less x."""
    # Its roots' k-th powers have the trace of x to the k-th as their sum; Newton's sums give its
    # places from these, the last place first.
    n = ring.degree
    sums = [trace(ring, power(ring, x, k)) for k in range(n + 1)]
    places = [1]
    for k in range(1, n + 1):
        total = sum([places[i] * sums[k - i] for i in range(k)])
        places.append(-total // k)
    return tuple(places[::-1])


def mate(ring, x):
    """The number whose product with x is the norm of x; nought of nought."""
    # x is a root of its own polynomial: without place 0, and divided by x, this leaves the mate,
    # but for the sign that place 0 has beside the norm.
    n = ring.degree
    places = own(ring, x)
    made = number_of(ring, 1)
    for i in range(n - 1, 0, -1):
        made = add(ring, times(ring, made, x), number_of(ring, places[i]))
    if n % 2 == 0:
        return less(ring, number_of(ring, 0), made)
    return made


def over(ring, x, y):
    """The number whose product with y is x."""
    if y == number_of(ring, 0):
        raise Nought("nothing is told over nought")
    # With the mate of y both sides can be divided by a whole number, place by place. It is not 0:
    # a ring's polynomial does not fall apart, so that only nought has the norm 0.
    size = norm(ring, y)
    many = times(ring, x, mate(ring, y))
    if any([c % size != 0 for c in many]):
        raise NotHeld("there is no such number in the ring")
    return tuple([c // size for c in many])
