"""Small numbers of an ideal, and the ring's bound for what is left."""

from ringhouse.boxes import rows_within
from ringhouse.errors import TooGreat
from ringhouse.ideals import holds, made, size
from ringhouse.numbers import number_of, t_times
from ringhouse.quotients import quotient
from ringhouse.tables import without
from ringhouse.whole import to_the

GREATEST_SIZE = 99


def bound(ring):
    """The ring's bound."""
    n = ring.degree
    powers = [number_of(ring, 1)]
    for step in range(2 * n - 2):
        powers.append(t_times(ring, powers[-1]))
    return all_orders(tuple([reaches(powers[i:i + n]) for i in range(n)]))


def reaches(numbers):
    """The row of the sums of the numbers' places, each place without its sign."""
    return tuple([sum([abs(x[j]) for x in numbers]) for j in range(len(numbers[0]))])


def all_orders(table):
    """The sum of the products that a determinant has, all with the sign that they have by themselves."""
    if len(table) == 1:
        return table[0][0]
    return sum([table[i][0] * all_orders(without(table, i)) for i in range(len(table))])


def small(ring, ideal):
    """The tuple (x, B): a number of the ideal with small places, and the ideal that it leaves."""
    if size(ideal) > GREATEST_SIZE:
        raise TooGreat("small numbers are told for norms up to 99")
    s = root_of(size(ideal), ring.degree)
    nought = number_of(ring, 0)
    # Of the rows with places from 0 to s there are more than rests by the ideal: two of them have
    # the same rest, and their difference is such a number.
    held = [row for row in rows_within(s, ring.degree) if row != nought and holds(ideal, row)]
    x = held[0]
    return (x, quotient(ring, made(ring, [x]), ideal))


def root_of(m, n):
    """The greatest whole number that, taken n times, makes at most m."""
    s = 0
    while to_the(s + 1, n) <= m:
        s += 1
    return s
