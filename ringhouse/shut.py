"""Shut rows: the sums of some rows, and how each comes of them."""

from ringhouse.group import corners_of, divisors_of, lay_by, one_rows, row_times, straightened


class Shut:
    """The sums of some rows of wide places.

    corners, turn and undo tell the sums apart from other rows; row j of ways tells how often each
    of the rows is taken where the sum is turned into corner j at place j and noughts else.
    """

    def __init__(self, rows, wide):
        # Each row bears its own 1 behind it, which tells in the end of what a row came.
        marked = [list(row) + mark for row, mark in zip(rows, one_rows(len(rows)))]
        grid = straightened(marked, wide)
        self.corners = corners_of(grid)
        self.turn = grid.turn
        self.undo = grid.undo
        self.ways = [row[wide:] for row in grid.rows]


def shut_divisors(shut):
    """The divisors of the group that is left where all sums are taken for nought."""
    return divisors_of(shut.corners)


def shut_lay(shut, row):
    """The place of a row in this group."""
    return lay_by(shut.corners, shut.turn, row)


def row_laid(shut, places):
    """A row, as a list, that has this place in the group, but for multiples of the divisors."""
    kept = [j for j, d in enumerate(shut.corners) if d != 1]
    turned = [0] * len(shut.corners)
    for j, c in zip(kept, places):
        turned[j] = c
    return row_times(turned, shut.undo)


def how_often(shut, row):
    """How often each of the rows is taken in a sum that is this row, a list; None where it is no sum."""
    found = [0] * len(shut.ways)
    for j, c in enumerate(row_times(row, shut.turn)):
        d = shut.corners[j]
        if c != 0 and (d == 0 or c % d != 0):
            return None
        if c != 0:
            found = [many + c // d * step for many, step in zip(found, shut.ways[j])]
    return found
