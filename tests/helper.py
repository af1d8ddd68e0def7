"""What several tests need: reckonings that go another way than the program's, and samples."""

import functools
import itertools
import math
import random
from fractions import Fraction

from ringhouse.ring import Ring

RINGS = (
    (1, 0, 1), (-1, 1, 1), (5, 0, 1), (-3, 0, 1), (-99, 199, 1), (499, 1, 1), (-10, 0, 1),
    (-2, 0, 0, 1), (1, -1, 0, 1), (-1, -2, 1, 1), (-47, -17, 0, 1), (-198, -65, 0, 1),
    (1, 0, 0, 0, 1), (1, 1, 1, 1, 1), (-1, -1, 0, 0, 1), (2, 0, 0, 0, 1),
    (15, -12, -4, 2, 1),
)
# Degree two: measures below 0, above 0, and great places or measures.
BELOW = (
    (1, 0, 1), (1, 1, 1), (1, -1, 1), (2, 0, 1), (5, 0, 1), (6, 0, 1), (14, 0, 1), (6, 1, 1), (12, 1, 1), (41, 0, 1),
    (30, 0, 1), (13, 3, 1), (4, 1, 1), (9, -1, 1), (21, 0, 1), (65, 0, 1), (101, 1, 1),
)
ABOVE = (
    (-1, 1, 1), (-2, 0, 1), (-3, 0, 1), (-6, 0, 1), (-10, 0, 1), (-15, 0, 1), (-34, 0, 1), (-57, 1, 1), (-57, -1, 1),
    (-1, 3, 1), (-1, -3, 1), (-30, 0, 1), (-16, 1, 1), (-79, 0, 1), (-82, 0, 1), (-36, -1, 1), (-119, 0, 1),
)
GREAT_ONES = (
    (-99, 199, 1), (499, 1, 1), (-499, 0, 1), (-497, 3, 1), (498, 0, 1), (497, 3, 1), (-498, -194, 1), (-493, 193, 1),
    (497, -41, 1),
)
# The least units have from 44 to 184 figures; the norms of the last two are -1.
GREAT_UNITS = ((-406, 195, 1), (-352, -189, 1), (-406, 180, 1), (-448, 183, 1))


def maker(seed):
    """A source of numbers that are the same in each run."""
    return random.Random(seed)


def rings_of(polys):
    """The polynomials, each with its ring."""
    return [(poly, Ring(poly)) for poly in polys]


def refused(call, *things):
    """The refusal of a call, or None where it answers."""
    try:
        call(*things)
    except ValueError as refusal:
        return refusal
    return None


def brute_det(table):
    total = 0
    for order in itertools.permutations(range(len(table))):
        sign = 1
        for i, j in itertools.combinations(range(len(table)), 2):
            if order[i] > order[j]:
                sign = -sign
        for i, j in enumerate(order):
            sign *= table[i][j]
        total += sign
    return total


def brute_product(f, g):
    """The product of two rows, with every nought at its end."""
    places = [0] * max(0, len(f) + len(g) - 1)
    for i, a in enumerate(f):
        for j, b in enumerate(g):
            places[i + j] += a * b
    return tuple(places)


def brute_times(poly, x, y):
    """The product of two numbers of the ring of poly."""
    n = len(poly) - 1
    places = list(brute_product(x, y))
    for at in range(len(places) - 1, n - 1, -1):
        many = places[at]
        for j in range(n + 1):
            places[at - n + j] -= many * poly[j]
    return tuple(places[:n])


def brute_table(poly, x):
    n = len(poly) - 1
    return [brute_times(poly, tuple(int(j == i) for j in range(n)), x) for i in range(n)]


def brute_norm(poly, x):
    return brute_det(brute_table(poly, x))


def brute_own(poly, x):
    """The places of the own polynomial, from its values at 0 to n."""
    n = len(poly) - 1
    total = [Fraction(0)] * (n + 1)
    for z in range(n + 1):
        value = Fraction(brute_norm(poly, tuple(z * int(i == 0) - c for i, c in enumerate(x))))
        base = (Fraction(1),)
        for other in range(n + 1):
            if other != z:
                value /= z - other
                base = brute_product(base, (Fraction(-other), Fraction(1)))
        for i, c in enumerate(base):
            total[i] += value * c
    assert all(c.denominator == 1 for c in total)
    return tuple(int(c) for c in total)


def brute_is_whole(poly, p, x):
    """Whether x / p is a root of a monic polynomial with whole places."""
    n = len(poly) - 1
    return all(c % p ** (n - i) == 0 for i, c in enumerate(brute_own(poly, x)))


def brute_outside(poly, p):
    """All x with places from 0 to p - 1, not all 0, such that x / p is whole."""
    n = len(poly) - 1
    rows = itertools.product(range(p), repeat=n)
    return [x for x in rows if any(x) and brute_is_whole(poly, p, x)]


def brute_stair(k, m, rows):
    """The stair table of the rows and of m times each row of one 1, by Euclid's steps on whole rows."""
    left = [tuple(row) for row in rows] + [tuple(m * int(j == i) for j in range(k)) for i in range(k)]
    table = [None] * k
    for i in range(k - 1, -1, -1):
        while sum(row[i] != 0 for row in left) > 1:
            low = min((row for row in left if row[i] != 0), key=lambda row: abs(row[i]))
            at = left.index(low)
            for j, row in enumerate(left):
                if j != at:
                    many = row[i] // low[i]
                    left[j] = tuple(c - many * d for c, d in zip(row, low))
        low = next(row for row in left if row[i] != 0)
        left.remove(low)
        table[i] = low if low[i] > 0 else tuple(-c for c in low)
    for i in range(k):
        for j in range(i - 1, -1, -1):
            many = table[i][j] // table[j][j]
            table[i] = tuple(c - many * d for c, d in zip(table[i], table[j]))
    return tuple(table)


def brute_holds(table, x):
    """Whether a row is a sum of the rows of a triangle: the number of times of each row is reckoned."""
    left = list(x)
    for i in range(len(table) - 1, -1, -1):
        if left[i] % table[i][i] != 0:
            return False
        many = left[i] // table[i][i]
        left = [c - many * d for c, d in zip(left, table[i])]
    return True


def brute_made(poly, numbers):
    """The ideal made by numbers of which one at least is not nought."""
    rows = [row for x in numbers for row in brute_table(poly, x)]
    m = next(abs(brute_norm(poly, x)) for x in numbers if any(x))
    return brute_stair(len(poly) - 1, m, rows)


def brute_ideal_product(poly, one, other):
    rows = [brute_times(poly, x, y) for x in one for y in other]
    return brute_stair(len(poly) - 1, one[0][0] * other[0][0], rows)


def brute_is_ideal(poly, table):
    """Whether a stair table is an ideal."""
    t = (0, 1) + (0,) * (len(poly) - 3)
    return all(brute_holds(table, brute_times(poly, t, row)) for row in table)


def corners_of(n, m):
    """All tuples of n whole numbers from 1 on with the product m."""
    if n == 1:
        return [(m,)]
    return [(d,) + rest for d in range(1, m + 1) if m % d == 0 for rest in corners_of(n - 1, m // d)]


def brute_tables(n, m):
    """All stair tables of n rows of the norm m."""
    for corners in corners_of(n, m):
        choices = []
        for i, corner in enumerate(corners):
            heads = itertools.product(*(range(c) for c in corners[:i]))
            choices.append([head + (corner,) + (0,) * (n - i - 1) for head in heads])
        yield from itertools.product(*choices)


@functools.lru_cache(maxsize=None)
def brute_ideals(poly, m):
    """All ideals of the norm m, in the order of the tables."""
    return tuple(sorted(table for table in brute_tables(len(poly) - 1, m) if brute_is_ideal(poly, table)))


def brute_often(poly, prime, ideal):
    """How often a prime goes into an ideal, by its powers one behind the other."""
    k, power = 0, prime
    while all(brute_holds(power, row) for row in ideal):
        k += 1
        power = brute_ideal_product(poly, power, prime)
    return k


def norm_of(table):
    value = 1
    for i, row in enumerate(table):
        value *= row[i]
    return value


def rests_by(table):
    """All rests by a stair table."""
    return list(itertools.product(*(range(row[i]) for i, row in enumerate(table))))


def whole(n, k):
    """The whole number k as a number of a ring of degree n."""
    return (k,) + (0,) * (n - 1)


def one_table(n, k=1):
    """The ideal made by k, a whole number from 1 on."""
    return tuple(tuple(k * int(j == i) for j in range(n)) for i in range(n))


def some_number(source, n, reach):
    """A number that is not nought, with places from -reach to reach."""
    while True:
        x = tuple(source.randint(-reach, reach) for i in range(n))
        if any(x):
            return x


def some_ideals(poly, most=12):
    """All ideals of norms from 1 to most."""
    return [table for m in range(1, most + 1) for table in brute_ideals(poly, m)]


def measure_two(poly):
    return poly[1] ** 2 - 4 * poly[0]


@functools.lru_cache(maxsize=None)
def unit_bound(poly):
    """A whole number above some unit that is above 1; 1 where the measure is below 0. Degree two."""
    d = measure_two(poly)
    if d < 0:
        return 1
    for q in itertools.count(1):
        for square in (d * q * q - 4, d * q * q + 4):
            if square >= 0 and math.isqrt(square) ** 2 == square:
                return (math.isqrt(square) + q * (math.isqrt(d) + 1)) // 2 + 1


def brute_of_size(poly, ideal):
    """A number of the ideal whose norm, without its sign, is that of the ideal; None where there is none."""
    d, m = measure_two(poly), norm_of(ideal)
    # Some unit brings both values of such a number below the root of m times the unit.
    most = math.isqrt(4 * m * unit_bound(poly) // abs(d)) + 1
    for q in range(most + 1):
        for square in (d * q * q - 4 * m, d * q * q + 4 * m):
            if square >= 0 and math.isqrt(square) ** 2 == square:
                for gap in (math.isqrt(square), -math.isqrt(square)):
                    x = ((poly[1] * q + gap) // 2, q)
                    if (poly[1] * q + gap) % 2 == 0 and brute_holds(ideal, x):
                        return x
    return None


def turned(poly, ideal):
    """The ideal whose numbers are those of the ideal with the other root in the place of t."""
    rows = [(x - poly[1] * y, -y) for x, y in ideal]
    return brute_stair(2, ideal[0][0], rows)


def brute_alike(poly, one, other):
    """Whether two ideals are alike: the product of one and the other turned is then made by one number."""
    return brute_of_size(poly, brute_ideal_product(poly, one, turned(poly, other))) is not None


def brute_home(poly, ideal):
    """Of all ideals alike to this one the first of the least norm."""
    for m in range(1, norm_of(ideal) + 1):
        for other in brute_ideals(poly, m):
            if brute_alike(poly, ideal, other):
                return other


def brute_in_sums(rows, row):
    """Whether a row is a sum of rows, each taken any whole number of times, by Euclid's steps on whole rows."""
    left = [list(line) for line in rows]
    due = list(row)
    for j in range(len(due)):
        while sum(line[j] != 0 for line in left) > 1:
            low = min((line for line in left if line[j] != 0), key=lambda line: abs(line[j]))
            for line in left:
                if line is not low:
                    many = line[j] // low[j]
                    line[:] = [c - many * d for c, d in zip(line, low)]
        corner = next((line for line in left if line[j] != 0), None)
        if corner is not None:
            left = [line for line in left if line is not corner]
            many = due[j] // corner[j]
            due = [c - many * d for c, d in zip(due, corner)]
        if due[j] != 0:
            return False
    return True
