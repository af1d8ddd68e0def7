"""Stair tables: one table for all lists of rows that have the same sums."""

from ringhouse.whole import shared_by


def stair(k, m, rows):
    """The stair table of k rows with the sums of these rows and of m times each row of one 1."""
    triangle = [(0,) * i + (m,) + (0,) * (k - i - 1) for i in range(k)]
    for row in rows:
        triangle = taken_in(triangle, m, row)
    table = []
    for i, row in enumerate(triangle):
        # The rows of the table so far have noughts from place i on: only the places ahead matter.
        table.append(rest(table, row[:i]) + row[i:])
    return tuple(table)


def taken_in(triangle, m, row):
    """The triangle whose sums are those of the rows of this one and of one row more."""
    found = list(triangle)
    left = row
    for i in reversed(range(len(row))):
        high = found[i]
        g, s, t = shared_by(high[i], left[i])
        # The two rows are turned into two with the same sums, of which one has a nought at place i
        # and goes on downwards.
        found[i] = mixed(s, high, t, left, m, i) + (g,) + high[i + 1:]
        left = mixed(high[i] // g, left, -left[i] // g, high, m, i)
    return found


def mixed(s, one, t, other, m, size):
    """The first places of s times a row and t times another one, brought to their rests by m."""
    # The triangle's sums hold m times each row of one 1, so that nothing is lost by the rests.
    return tuple([(s * c + t * d) % m for c, d in zip(one[:size], other[:size])])


def rest(table, row):
    """The rest of a row by a stair table."""
    left = row
    for i in reversed(range(len(row))):
        many = left[i] // table[i][i]
        left = tuple([c - many * d for c, d in zip(left, table[i])])
    return left


def is_stair(table, k):
    """Whether a tuple of rows, of any number and any lengths, is a stair table of k rows."""
    if len(table) != k or any([len(row) != k for row in table]):
        return False
    return all([is_stair_row(table, i) for i in range(k)])


def is_stair_row(table, i):
    """Whether row i of a table, of as many places as rows, is as it is in a stair table."""
    row = table[i]
    if row[i] < 1 or any(row[i + 1:]):
        return False
    return all([0 <= row[j] < table[j][j] for j in range(i)])
