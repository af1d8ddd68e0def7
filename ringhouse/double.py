"""What is found by stair tables of twice as many rows: meets, inverses, one number for two."""

from ringhouse.errors import NotApart
from ringhouse.ideals import whole_ring
from ringhouse.numbers import add, less, table_of, times
from ringhouse.stairs import rest, stair
from ringhouse.whole import shared


def meet(one, other):
    """The ideal of the numbers that both hold."""
    return front(laid_over(one, other))


def inverse(ring, ideal, x):
    """The rest y by the ideal for which it holds x y - 1."""
    # Where there is such a y, the ideal holds x y for the numbers y of the ideal alone: what
    # stands ahead of the 1 is a rest by it.
    return ahead_of_one(doubled(ideal[0][0], whole_ring(ring), table_of(ring, x), ideal))


def both(ring, one, other, x, y):
    """The rest z by the meet for which the one ideal holds z - x, the other one z - y."""
    ladder = laid_over(one, other)
    # This number is held by the one, and 1 less it by the other.
    part = ahead_of_one(ladder)
    z = add(ring, x, times(ring, less(ring, y, x), part))
    return rest(front(ladder), z)


def doubled(m, rows, images, table):
    """The stair table of the rows, each with its image behind it, and of a table behind noughts.

    So the sums of its upper half are those sums of the rows whose images are sums of the table.
    m times each row of one 1 must be such a sum of the rows, and a sum of the table.
    """
    noughts = (0,) * len(table)
    pairs = [row + image for row, image in zip(rows, images)]
    return stair(2 * len(table), m, pairs + [noughts + row for row in table])


def laid_over(one, other):
    """The doubled table of two ideals, each row of the one with itself as its image."""
    m, k = one[0][0], other[0][0]
    return doubled(m * k // shared(m, k), one, one, other)


def front(ladder):
    """The upper half of a doubled table, without its noughts."""
    n = len(ladder) // 2
    return tuple([row[:n] for row in ladder[:n]])


def ahead_of_one(ladder):
    """What stands ahead of the image 1 in a doubled table; refused where no sum has it."""
    n = len(ladder) // 2
    row = ladder[n]
    if row[n] != 1:
        raise NotApart("the two share more than the whole ring does")
    return row[:n]
