"""Rows brought to a diagonal: which rows are their sums, and which group is left where sums are nought."""


class Grid:
    """Rows on their way to a diagonal, and the two tables that tell how their places were turned.

    Only the first wide places of a row are turned; those behind them go along with the row.
    """

    def __init__(self, rows, wide):
        self.rows = [list(row) for row in rows]
        self.wide = wide
        self.turn = one_rows(wide)
        self.undo = one_rows(wide)


def diagonal(rows, k):
    """The tuple (diagonal, turn, back) of a list of rows of k places."""
    grid = straightened(rows, k)
    return (corners_of(grid), as_table(grid.turn), as_table(grid.undo))


def straightened(rows, wide):
    """The grid of these rows, brought to a diagonal."""
    grid = Grid(rows, wide)
    at = 0
    while at < wide and is_settled(grid, at):
        at += 1
    return grid


def corners_of(grid):
    """The diagonal of a grid; noughts where it has no more rows."""
    high = len(grid.rows)
    return [grid.rows[j][j] if j < high else 0 for j in range(grid.wide)]


def is_settled(grid, at):
    """Bring corner at to its place, noughts beside and below it; False where only noughts are left."""
    while True:
        spot = least_spot(grid, at)
        if spot is None:
            return False
        bring(grid, spot[1], spot[2], at)
        clear_below(grid, at)
        clear_beside(grid, at)
        if is_clear(grid, at):
            other = undivided_row(grid, at)
            if other is None:
                return True
            # With this row added, the corner leaves a rest in it that is less than the corner.
            add_row(grid, at, other, 1)


def least_spot(grid, at):
    """The tuple (size, row, place) of the least place that is not 0, from row and place at on; or None."""
    spots = [
        (abs(row[j]), i, j)
        for i, row in enumerate(grid.rows) if i >= at
        for j in range(at, grid.wide) if row[j] != 0
    ]
    return min(spots, default=None)


def bring(grid, i, j, at):
    """Bring place j of row i to place at of row at, and above nought."""
    grid.rows = swapped(grid.rows, i, at)
    if grid.rows[at][j] < 0:
        grid.rows[at] = [-c for c in grid.rows[at]]
    grid.rows = [swapped(row, j, at) for row in grid.rows]
    grid.turn = [swapped(row, j, at) for row in grid.turn]
    grid.undo = swapped(grid.undo, j, at)


def clear_below(grid, at):
    """Take row at from the rows below it, so that their place at is left as its rest by the corner."""
    corner = grid.rows[at][at]
    for i in range(at + 1, len(grid.rows)):
        many = nearest(grid.rows[i][at], corner)
        if many != 0:
            add_row(grid, i, at, -many)


def clear_beside(grid, at):
    """Take place at from the places behind it, so that those of row at are left as their rests."""
    corner = grid.rows[at][at]
    for j in range(at + 1, grid.wide):
        many = nearest(grid.rows[at][j], corner)
        if many != 0:
            grid.rows = [shifted(row, j, at, many) for row in grid.rows]
            grid.turn = [shifted(row, j, at, many) for row in grid.turn]
            grid.undo[at] = [c + many * d for c, d in zip(grid.undo[at], grid.undo[j])]


def is_clear(grid, at):
    """Whether only noughts stand beside and below corner at."""
    beside = grid.rows[at][at + 1:grid.wide]
    return not any(beside) and not any([row[at] for row in grid.rows[at + 1:]])


def undivided_row(grid, at):
    """A row behind row at with a place that corner at does not divide; None where there is none."""
    corner = grid.rows[at][at]
    for i in range(at + 1, len(grid.rows)):
        if any([c % corner != 0 for c in grid.rows[i][:grid.wide]]):
            return i
    return None


def add_row(grid, i, other, many):
    """Add another row, many times, to row i."""
    grid.rows[i] = [c + many * d for c, d in zip(grid.rows[i], grid.rows[other])]


def nearest(c, d):
    """The whole number of times that d, above 0, can be taken from c so that the least is left."""
    return (2 * c + d) // (2 * d)


def swapped(things, i, j):
    """The list with things i and j in each other's place."""
    found = list(things)
    found[i] = things[j]
    found[j] = things[i]
    return found


def shifted(row, j, at, many):
    """The row with place at taken many times from place j."""
    found = list(row)
    found[j] -= many * row[at]
    return found


def one_rows(k):
    """The k rows of k places that have a 1, row i at place i, and else noughts."""
    return [[1 if i == j else 0 for j in range(k)] for i in range(k)]


def as_table(rows):
    """The table of a list of rows."""
    return tuple([tuple(row) for row in rows])


def row_times(row, table):
    """The sum of the rows of a table, each as often as the row says, as a list."""
    return [sum([c * line[j] for c, line in zip(row, table)]) for j in range(len(table))]


def lay_by(corners, turn, row):
    """The places by which a row is told apart from those that differ from it by more than a sum."""
    return tuple([
        c if d == 0 else c % d
        for c, d in zip(row_times(row, turn), corners) if d != 1
    ])


def divisors_of(corners):
    """The diagonal without its ones."""
    return [d for d in corners if d != 1]
