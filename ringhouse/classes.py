"""The classes of alike ideals, in degree two."""

from ringhouse.errors import TooGreat
from ringhouse.group import corners_of, divisors_of, lay_by, straightened
from ringhouse.homes import home
from ringhouse.ideals import is_ideal, whole_ring
from ringhouse.products import product
from ringhouse.steps import need_two

GREATEST_MEASURE = 1999


class Classes:
    """The homes of a ring's ideals, and the group that they are."""

    def __init__(self, ring):
        need_two(ring)
        if abs(ring.measure) > GREATEST_MEASURE:
            raise TooGreat("classes are told for measures from -1,999 to 1,999")
        self.ring = ring
        self.tables = homes_of(ring)
        counts, rows = counted(ring, self.tables)
        grid = straightened(rows, len(rows))
        corners = corners_of(grid)
        self.orders = divisors_of(corners)
        self.lays = {table: lay_by(corners, grid.turn, counts[table]) for table in self.tables}
        self.spots = {self.lays[table]: table for table in self.tables}

    def homes(self):
        """The list of all homes."""
        return list(self.tables)

    def divisors(self):
        """The divisors of the group."""
        return list(self.orders)

    def lay(self, ideal):
        """The lay of an ideal."""
        return self.lays[home(self.ring, ideal)]

    def laid(self, places):
        """The home whose lay these places are, each brought to its rest by its divisor."""
        return self.spots[tuple([c % d for c, d in zip(places, self.orders)])]


def homes_of(ring):
    """The list of all homes, in the order of their norms, then of their tables."""
    found = []
    a = 1
    # All homes are of this form, and their norms a have this bound.
    while room_for(ring.measure, a):
        tables = [((a, 0), (r, 1)) for r in range(a)]
        found.extend([table for table in tables if is_ideal(ring, table) and home(ring, table) == table])
        a += 1
    return found


def room_for(measure, a):
    """Whether a home may have the norm a."""
    return 3 * a * a <= -measure if measure < 0 else 4 * a * a <= measure


def counted(ring, homes):
    """The tuple (counts, rows) of some homes of which all homes are products, its makers.

    counts tells to each home a row of how often each maker goes into such a product; rows is the
    list of as many rows as there are makers, whose sums are all the rows that tell the whole ring.
    """
    counts = {whole_ring(ring): ()}
    rows = []
    for table in homes:
        if table not in counts:
            powers = powers_until(ring, table, counts)
            row = tuple([-c for c in counts[powers[-1]]]) + (len(powers) - 1,)
            rows.append(row)
            counts = spread(ring, counts, powers[:-1])
    return (counts, [row + (0,) * (len(rows) - len(row)) for row in rows])


def powers_until(ring, table, counts):
    """The homes of the powers of a table, from the 0-th to the first later one that is counted."""
    powers = [whole_ring(ring), table]
    while powers[-1] not in counts:
        powers.append(home(ring, product(ring, powers[-1], table)))
    return powers


def spread(ring, counts, powers):
    """The counts of all products of a counted home and one of the powers of a new maker."""
    return {
        home(ring, product(ring, table, power)): row + (many,)
        for many, power in enumerate(powers) for table, row in counts.items()
    }
