"""Points 49 and 51."""

import itertools
import unittest

from ringhouse.above import above
from ringhouse.homes import home, road
from ringhouse.ideals import is_ideal, made, size, whole_ring
from ringhouse.likes import alike
from ringhouse.looks import sees_prime, sees_road, sees_small, sees_taken, sees_unit
from ringhouse.numbers import norm, power
from ringhouse.products import product, raised
from ringhouse.ring import Ring
from ringhouse.small import small
from ringhouse.taken import built, taken
from ringhouse.units import basic
from ringhouse.whole import small_primes
from tests.helper import (
    ABOVE, BELOW, GREAT_UNITS, RINGS, brute_holds, brute_ideal_product, brute_made, brute_norm, maker, one_table,
    rings_of, some_ideals, some_number, whole,
)

GREAT = 10 ** 2000 - 1


def no_ideals(n):
    """Tables that are no ideals in any ring of degree n of RINGS, of right and of other lengths."""
    one = one_table(n)
    return [
        (), ((),), ((),) * n, ((1,),), one[:-1], one + one[-1:], tuple(row + (0,) for row in one),
        tuple(row[:-1] for row in one), ((0,) * n,) * n, tuple(tuple(-c for c in row) for row in one), one[::-1],
        ((GREAT,) + (0,) * (n - 1),) + one[1:], ((1,) * n,) + one[1:], one[:-1] + ((5,) + one[-1][1:],),
        ((GREAT,) * n,) * n, one_table(n + 1), ((1, 2, 3), (4,), ()), ((7,) * 3000,) * n,
    ]


def some_rings():
    return rings_of(RINGS)


class Point51Prime(unittest.TestCase):
    def test_all_primes_above_small_primes(self):
        for poly, ring in some_rings()[::3]:
            for p in small_primes()[:8] + small_primes()[-2:]:
                for prime, often, degree in above(ring, p):
                    self.assertIs(sees_prime(ring, prime), True)

    def test_small_ideals(self):
        for poly, ring in some_rings():
            primes = [row[0] for p in (2, 3, 5, 7, 11) for row in above(ring, p)]
            for ideal in some_ideals(poly):
                self.assertIs(sees_prime(ring, ideal), ideal in primes, (poly, ideal))

    def test_others(self):
        for poly, ring in some_rings():
            n = ring.degree
            self.assertIs(sees_prime(ring, whole_ring(ring)), False)
            for prime, often, degree in above(ring, 3) + above(ring, 199):
                self.assertIs(sees_prime(ring, raised(ring, prime, 2)), False)
                self.assertIs(sees_prime(ring, product(ring, prime, one_table(n, 2))), False)
                self.assertIs(sees_prime(ring, product(ring, prime, one_table(n, 211))), False)
            self.assertIs(sees_prime(ring, one_table(n, GREAT)), False)
            for table in no_ideals(n):
                self.assertIs(sees_prime(ring, table), False)

    def test_one_place_changed(self):
        for poly, ring in some_rings():
            n = ring.degree
            primes = [row[0] for p in (2, 3, 5, 7) for row in above(ring, p)]
            for prime in primes[:5]:
                for i, j in itertools.product(range(n), repeat=2):
                    for change in (1, -1, 2, -2, GREAT):
                        rows = [list(row) for row in prime]
                        rows[i][j] += change
                        other = tuple(tuple(row) for row in rows)
                        self.assertIs(sees_prime(ring, other), other in primes)

    def test_primes_above_prime_numbers_that_are_not_small(self):
        ring = Ring((1, 0, 1))
        for table in (((229, 0), (107, 1)), ((229, 0), (122, 1)), one_table(2, 211)):
            self.assertTrue(is_ideal(ring, table))
            self.assertIs(sees_prime(ring, table), False)

    def test_two_rings_by_turns(self):
        one, other = Ring((5, 0, 1)), Ring((-10, 0, 1))
        for time in range(2):
            self.assertIs(sees_prime(one, ((2, 0), (1, 1))), True)
            self.assertIs(sees_prime(other, ((2, 0), (1, 1))), False)
            self.assertIs(sees_prime(one, ((2, 0), (0, 1))), False)
            self.assertIs(sees_prime(other, ((2, 0), (0, 1))), True)


class Point51Taken(unittest.TestCase):
    def test_what_is_taken_in_any_order(self):
        for poly, ring in some_rings():
            for ideal in some_ideals(poly) + [one_table(ring.degree, 30)]:
                rows = taken(ring, ideal)
                for order in list(itertools.permutations(rows))[:24]:
                    kept = list(order)
                    self.assertIs(sees_taken(ring, ideal, kept), True)
                    self.assertEqual(kept, list(order))

    def test_one_thing_changed(self):
        for poly, ring in some_rings():
            n = ring.degree
            ideal = one_table(n, 2 * 3 * 3 * 5)
            rows = taken(ring, ideal)
            more = above(ring, 7)[0][0]
            for row in ((more, 0), (more, 1), (more, -1), (whole_ring(ring), 1), ((), 1)):
                self.assertIs(sees_taken(ring, ideal, rows + [row]), False)
            for at, (prime, often) in enumerate(rows):
                for others in (
                    [], [(prime, often)] * 2, [(prime, often), (prime, 0)], [(prime, 1), (prime, often - 1)],
                    [(prime, often + 1)], [(prime, often - 1)], [(prime, 0)], [(prime, -often)], [(prime, GREAT)],
                    [(prime, -GREAT)], [(more, often)], [((), often)], [(prime[:-1], often)],
                    [(one_table(n, GREAT), often)],
                ):
                    self.assertIs(sees_taken(ring, ideal, rows[:at] + others + rows[at + 1:]), False)
            self.assertIs(sees_taken(ring, ideal, []), False)
            self.assertIs(sees_taken(ring, ideal, [(ideal, 1)]), False)
            self.assertIs(sees_taken(ring, product(ring, ideal, more), rows), False)
            self.assertIs(sees_taken(ring, product(ring, ideal, more), rows + [(more, 1)]), True)
            self.assertIs(sees_taken(ring, whole_ring(ring), rows), False)

    def test_parts_that_are_no_primes(self):
        ring = Ring((5, 0, 1))
        two = ((2, 0), (1, 1))
        self.assertIs(sees_taken(ring, one_table(2, 2), [(two, 2)]), True)
        self.assertIs(sees_taken(ring, one_table(2, 2), [(one_table(2, 2), 1)]), False)
        self.assertIs(sees_taken(ring, one_table(2, 2), [(two, 1), (two, 1)]), False)
        self.assertIs(sees_taken(ring, one_table(2, 4), [(one_table(2, 2), 2)]), False)
        # The other one of two primes of one norm.
        three, other = ((3, 0), (1, 1)), ((3, 0), (2, 1))
        self.assertIs(sees_taken(ring, raised(ring, three, 2), [(three, 2)]), True)
        self.assertIs(sees_taken(ring, raised(ring, three, 2), [(other, 2)]), False)
        self.assertIs(sees_taken(ring, raised(ring, three, 2), [(three, 1), (other, 1)]), False)

    def test_the_whole_ring(self):
        for poly, ring in some_rings():
            self.assertIs(sees_taken(ring, whole_ring(ring), []), True)
            self.assertIs(sees_taken(ring, whole_ring(ring), [(whole_ring(ring), 1)]), False)
            self.assertIs(sees_taken(ring, whole_ring(ring), [(above(ring, 2)[0][0], 0)]), False)

    def test_too_far_and_no_ideals(self):
        for poly, ring in some_rings():
            n = ring.degree
            for k in (211, 2 * 211, 211 ** 2, GREAT):
                for rows in ([], [(one_table(n, k), 1)], taken(ring, one_table(n, 2))):
                    self.assertIs(sees_taken(ring, one_table(n, k), rows), False)
            for table in no_ideals(n):
                for rows in ([], [(table, 1)], [(above(ring, 2)[0][0], 1)]):
                    self.assertIs(sees_taken(ring, table, rows), False)

    def test_numbers_of_some_thousand_figures(self):
        for poly, ring in rings_of(((5, 0, 1), (-2, 0, 0, 1), (1, 1, 1, 1, 1))):
            n = ring.degree
            k = 2 ** 3000 * 3 ** 2000 * 199 ** 50
            rows = []
            for p, many in ((2, 3000), (3, 2000), (199, 50)):
                rows += [(prime, many * often) for prime, often, degree in above(ring, p)]
            self.assertGreater(k, 10 ** 1950)
            self.assertIs(sees_taken(ring, one_table(n, k), rows[::-1]), True)
            prime, often = rows[0]
            self.assertIs(sees_taken(ring, one_table(n, k), [(prime, often - 1)] + rows[1:]), False)
            self.assertIs(sees_taken(ring, one_table(n, k), rows[1:]), False)
            self.assertIs(sees_taken(ring, one_table(n, k * 3), rows), False)

    def test_long_lists(self):
        ring = Ring((5, 0, 1))
        two = ((2, 0), (1, 1))
        self.assertIs(sees_taken(ring, one_table(2, 2 ** 50), [(two, 1)] * 100), False)
        self.assertIs(sees_taken(ring, two, [(two, 1)] * 30000), False)

    def test_built_ones(self):
        source = maker(511)
        for poly, ring in some_rings():
            primes = [row[0] for p in (2, 3, 5, 197) for row in above(ring, p)]
            rows = [(prime, source.randint(1, 9)) for prime in primes]
            source.shuffle(rows)
            self.assertIs(sees_taken(ring, built(ring, rows), rows), True)
            self.assertIs(sees_taken(ring, built(ring, rows), rows[1:]), False)


class Point51Road(unittest.TestCase):
    def test_roads_and_likes_in_degree_two(self):
        for poly, ring in rings_of(BELOW[3:10] + ABOVE[3:10] + GREAT_UNITS):
            for ideal in some_ideals(poly, 9):
                x, k = road(ring, ideal)
                self.check_changes(ring, ideal, home(ring, ideal), x, k)
                told = alike(ring, home(ring, ideal), ideal)
                self.check_changes(ring, home(ring, ideal), ideal, *told)

    def check_changes(self, ring, one, other, x, k):
        self.assertIs(sees_road(ring, one, other, x, k), True)
        n = ring.degree
        minus = tuple(-c for c in x)
        self.assertIs(sees_road(ring, one, other, minus, k), True)
        # Unlike what is told, k and x may share a divider.
        self.assertIs(sees_road(ring, one, other, tuple(6 * c for c in x), 6 * k), True)
        for m in (k + 1, k - 1, -k, 0, 2 * k, GREAT, -GREAT):
            self.assertIs(sees_road(ring, one, other, x, m), False)
        for y in (tuple(2 * c for c in x), (0,) * n, (), x[:-1], x + (0,), (GREAT,) * n, (1,) * 4000):
            self.assertIs(sees_road(ring, one, other, y, k), False)
        for table in no_ideals(n) + [()]:
            self.assertIs(sees_road(ring, table, other, x, k), False)
            self.assertIs(sees_road(ring, one, table, x, k), False)
        # The same norm, another ideal: only where x moves it there.
        for at in range(n):
            y = x[:at] + (x[at] + 1,) + x[at + 1:]
            self.assertIs(sees_road(ring, one, other, y, k), brute_road(ring.poly, one, other, y, k))

    def test_any_degree(self):
        source = maker(512)
        for poly, ring in some_rings():
            n = ring.degree
            for ideal in some_ideals(poly)[-4:]:
                for reach in (2, 30):
                    x = some_number(source, n, reach)
                    there = product(ring, made(ring, [x]), ideal)
                    self.check_changes(ring, ideal, there, x, 1)
                    self.check_changes(ring, product(ring, one_table(n, 3), ideal), there, x, 3)

    def test_all_pairs_of_one_norm(self):
        for poly, ring in rings_of(((5, 0, 1), (-1, -2, 1, 1), (1, 1, 1, 1, 1), (-10, 0, 1))):
            n = ring.degree
            ideals = some_ideals(poly)
            for one, other in itertools.product(ideals[-8:], repeat=2):
                for x in itertools.product((-1, 0, 1, 2), repeat=n) if n < 4 else [whole(n, 1), (0, 1, 0, 0)]:
                    if any(x):
                        for k in (1, 2):
                            due = brute_road(poly, one, other, x, k)
                            self.assertIs(sees_road(ring, one, other, x, k), due)

    def test_great_numbers(self):
        source = maker(513)
        for poly, ring in some_rings():
            n = ring.degree
            ideal = some_ideals(poly)[-1]
            x = tuple(source.randint(-10 ** 1999, 10 ** 1999) for i in range(n))
            self.assertIs(sees_road(ring, ideal, ideal, x, 10 ** 1999), False)
            self.assertIs(sees_road(ring, ideal, ideal, whole(n, GREAT), GREAT), True)
            self.assertIs(sees_road(ring, ideal, ideal, whole(n, -GREAT), GREAT), True)
            self.assertIs(sees_road(ring, ideal, ideal, whole(n, GREAT), GREAT - 1), False)
            great = one_table(n, GREAT)
            self.assertIs(sees_road(ring, great, whole_ring(ring), whole(n, 1), GREAT), True)
            self.assertIs(sees_road(ring, whole_ring(ring), great, whole(n, GREAT), 1), True)
            self.assertIs(sees_road(ring, whole_ring(ring), great, whole(n, GREAT - 1), 1), False)
            y = some_number(source, n, 10 ** 300)
            there = product(ring, made(ring, [y]), ideal)
            self.assertIs(sees_road(ring, ideal, there, y, 1), True)
            self.assertIs(sees_road(ring, there, ideal, y, 1), False)


def brute_road(poly, one, other, x, k):
    if not any(x):
        return False
    n = len(poly) - 1
    there = brute_ideal_product(poly, brute_made(poly, [x]), one)
    return there == brute_ideal_product(poly, one_table(n, k), other)


class Point51Small(unittest.TestCase):
    def test_what_small_tells(self):
        for poly, ring in some_rings():
            for ideal in some_ideals(poly):
                x, other = small(ring, ideal)
                self.assertIs(sees_small(ring, ideal, x, other), True)
                self.assertIs(sees_small(ring, ideal, tuple(-c for c in x), other), True)

    def test_all_small_numbers(self):
        for poly, ring in rings_of(((5, 0, 1), (-10, 0, 1), (-2, 0, 0, 1), (-1, -1, 0, 0, 1))):
            n = ring.degree
            for ideal in some_ideals(poly, 17)[-6:]:
                s = max(k for k in range(9) if k ** n <= size(ideal))
                for x in itertools.product(range(-s - 1, s + 2), repeat=n):
                    if any(x) and brute_holds(ideal, x):
                        there = brute_made(poly, [x])
                        due = max(abs(c) for c in x) <= s
                        self.assertIs(sees_small(ring, ideal, x, what_is_left(ring, there, ideal)), due)

    def test_one_thing_changed(self):
        for poly, ring in some_rings():
            n = ring.degree
            for ideal in some_ideals(poly)[-5:]:
                x, other = small(ring, ideal)
                for y in ((0,) * n, (), x[:-1], x + (0,), tuple(40 * c for c in x), (GREAT,) * n, (1,) * 3000):
                    self.assertIs(sees_small(ring, ideal, y, other), False)
                for at in range(n):
                    y = x[:at] + (x[at] + 1,) + x[at + 1:]
                    if not brute_holds(ideal, y):
                        self.assertIs(sees_small(ring, ideal, y, other), False)
                for table in no_ideals(n) + [product(ring, other, one_table(n, 2)), one_table(n, GREAT)]:
                    self.assertIs(sees_small(ring, ideal, x, table), False)
                for table in no_ideals(n) + [product(ring, ideal, one_table(n, 2)), one_table(n, GREAT)]:
                    self.assertIs(sees_small(ring, table, x, other), False)
                # Of the same norm as what is left of x, but another ideal.
                for table in some_ideals(poly):
                    if size(table) == size(other) and table != other:
                        self.assertIs(sees_small(ring, ideal, x, table), False)

    def test_the_norm_99_and_above(self):
        ring = Ring((-10, 0, 1))
        for ideal in (product(ring, one_table(2, 3), ((10, 0), (0, 1))), one_table(2, 9)):
            x, other = small(ring, ideal)
            self.assertIs(sees_small(ring, ideal, x, other), True)
        self.assertIs(sees_small(ring, one_table(2, 10), (10, 0), whole_ring(ring)), False)
        self.assertIs(sees_small(ring, one_table(2, 9), (9, 0), whole_ring(ring)), True)
        ring = Ring((2, 0, 1))
        ideal = made(ring, [(9, 3)])
        self.assertEqual(size(ideal), 99)
        self.assertIs(sees_small(ring, ideal, (9, 3), whole_ring(ring)), True)
        self.assertIs(sees_small(ring, made(ring, [(10, 0)]), (10, 0), whole_ring(ring)), False)

    def test_the_whole_ring(self):
        for poly, ring in some_rings():
            n = ring.degree
            self.assertIs(sees_small(ring, whole_ring(ring), whole(n, 1), whole_ring(ring)), True)
            self.assertIs(sees_small(ring, whole_ring(ring), whole(n, 2), one_table(n, 2)), False)
            self.assertIs(sees_small(ring, whole_ring(ring), whole(n, 0), whole_ring(ring)), False)


def what_is_left(ring, there, ideal):
    """The ideal whose product with an ideal is there, by the primes of both."""
    rows = dict(taken(ring, there))
    for prime, often in taken(ring, ideal):
        rows[prime] -= often
    return built(ring, list(rows.items()))


class Point51Unit(unittest.TestCase):
    def test_small_numbers_in_any_degree(self):
        for poly, ring in some_rings():
            n = ring.degree
            for x in itertools.product(range(-2, 3), repeat=n):
                self.assertIs(sees_unit(ring, x), brute_norm(poly, x) in (1, -1))

    def test_great_units(self):
        for poly, ring in rings_of(GREAT_UNITS + ABOVE[:3]):
            for k in (1, 2, 7, 10):
                x = power(ring, basic(ring), k)
                self.assertIs(sees_unit(ring, x), True)
                self.assertIs(sees_unit(ring, tuple(-c for c in x)), True)
                other = (x[0] + 1, x[1])
                self.assertIs(sees_unit(ring, other), brute_norm(poly, other) in (1, -1))
        ring = Ring((-1, -1, 0, 0, 1))
        x = power(ring, power(ring, power(ring, (0, 1, 0, 0), 20), 20), 20)
        self.assertGreater(max(x), 10 ** 400)
        self.assertIs(sees_unit(ring, x), True)
        self.assertIs(sees_unit(ring, x[::-1]), abs(norm(ring, x[::-1])) == 1)

    def test_others(self):
        for poly, ring in some_rings():
            n = ring.degree
            one = whole(n, 1)
            for x in ((), (1,), one[:-1], one + (0,), whole(n, 0), whole(n, 2), (1,) * 5000, whole(n, -GREAT)):
                self.assertIs(sees_unit(ring, x), False)
            self.assertIs(sees_unit(ring, (GREAT,) * n), False)
            self.assertIs(sees_unit(ring, one), True)
            self.assertIs(sees_unit(ring, whole(n, -1)), True)
