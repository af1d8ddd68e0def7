"""Tables of whole numbers."""


def det(table):
    """The determinant of a table of as many places in each row as it has rows."""
    if len(table) == 1:
        return table[0][0]
    total = 0
    sign = 1
    for i in range(len(table)):
        total += sign * table[i][0] * det(without(table, i))
        sign = -sign
    return total


def without(table, i):
    """The table without row i and without place 0 of the other rows."""
    return tuple([row[1:] for row in table[:i] + table[i + 1:]])
