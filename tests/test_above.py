"""Point 29."""

import itertools
import unittest

from ringhouse.above import above
from ringhouse.errors import NoPrime
from ringhouse.ideals import inside, is_ideal, size, whole_ring
from ringhouse.products import product, raised
from ringhouse.ring import Ring
from ringhouse.split import split_by
from ringhouse.whole import small_primes
from tests.helper import (
    RINGS, brute_holds, brute_ideal_product, brute_ideals, brute_times, norm_of, one_table, refused, rests_by,
)


def is_prime(poly, table):
    """Whether no product of two numbers outside of an ideal, not the whole ring, is within it."""
    rests = [x for x in rests_by(table) if any(x)]
    pairs = itertools.combinations_with_replacement(rests, 2)
    return not any(brute_holds(table, brute_times(poly, x, y)) for x, y in pairs)


def brute_above(poly, p):
    """The list that is due, by a search over all ideals whose norm is a power of p."""
    n = len(poly) - 1
    found = []
    for degree in range(1, n + 1):
        for table in brute_ideals(poly, p ** degree):
            if table[0][0] == p and is_prime(poly, table):
                often, power = 0, table
                while all(brute_holds(power, row) for row in one_table(n, p)):
                    often += 1
                    power = brute_ideal_product(poly, power, table)
                found.append((table, often, degree))
    return found


class Point29(unittest.TestCase):
    def test_against_a_search(self):
        for poly in RINGS:
            ring = Ring(poly)
            for p in {2: (2, 3, 5, 7, 11), 3: (2, 3), 4: (2,)}[ring.degree]:
                self.assertEqual(above(ring, p), brute_above(poly, p), (poly, p))

    def test_all_small_primes(self):
        for poly in RINGS:
            ring = Ring(poly)
            n = ring.degree
            for p in small_primes():
                told = above(ring, p)
                self.assertIs(told.__class__, list)
                total = whole_ring(ring)
                for row in told:
                    self.assertIs(row.__class__, tuple)
                    prime, often, degree = row
                    self.assertTrue(is_ideal(ring, prime))
                    self.assertEqual(size(prime), p ** degree)
                    self.assertTrue(inside(one_table(n, p), raised(ring, prime, often)))
                    self.assertFalse(inside(one_table(n, p), raised(ring, prime, often + 1)))
                    total = product(ring, total, raised(ring, prime, often))
                self.assertEqual(total, one_table(n, p))
                self.assertEqual(sum(often * degree for prime, often, degree in told), n)
                self.assertEqual(told, sorted(told, key=lambda row: (row[2], row[0])))
                self.assertEqual(len({prime for prime, often, degree in told}), len(told))
                due = [(often, len(g) - 1) for g, often in split_by(poly, p)]
                self.assertEqual([row[1:] for row in told], due)

    def test_degree_two(self):
        ring = Ring((1, 0, 1))
        self.assertEqual(above(ring, 2), [(((2, 0), (1, 1)), 2, 1)])
        self.assertEqual(above(ring, 3), [(one_table(2, 3), 1, 2)])
        self.assertEqual(above(ring, 5), [(((5, 0), (2, 1)), 1, 1), (((5, 0), (3, 1)), 1, 1)])
        self.assertEqual(above(ring, 199), [(one_table(2, 199), 1, 2)])
        self.assertEqual(above(ring, 197), [(((197, 0), (14, 1)), 1, 1), (((197, 0), (183, 1)), 1, 1)])

    def test_degree_three(self):
        ring = Ring((-2, 0, 0, 1))
        self.assertEqual(above(ring, 2), [(((2, 0, 0), (0, 1, 0), (0, 0, 1)), 3, 1)])
        self.assertEqual(above(ring, 3), [(((3, 0, 0), (1, 1, 0), (2, 0, 1)), 3, 1)])
        self.assertEqual(above(ring, 5), [
            (((5, 0, 0), (2, 1, 0), (1, 0, 1)), 1, 1),
            (((5, 0, 0), (0, 5, 0), (4, 3, 1)), 1, 2),
        ])
        self.assertEqual(above(ring, 7), [(one_table(3, 7), 1, 3)])
        self.assertEqual(above(ring, 31), [
            (((31, 0, 0), (11, 1, 0), (3, 0, 1)), 1, 1),
            (((31, 0, 0), (24, 1, 0), (13, 0, 1)), 1, 1),
            (((31, 0, 0), (27, 1, 0), (15, 0, 1)), 1, 1),
        ])

    def test_degree_four(self):
        ring = Ring((1, 0, 0, 0, 1))
        self.assertEqual(above(ring, 2), [(((2, 0, 0, 0), (1, 1, 0, 0), (1, 0, 1, 0), (1, 0, 0, 1)), 4, 1)])
        self.assertEqual(above(ring, 3), [
            (((3, 0, 0, 0), (0, 3, 0, 0), (2, 1, 1, 0), (1, 1, 0, 1)), 1, 2),
            (((3, 0, 0, 0), (0, 3, 0, 0), (2, 2, 1, 0), (2, 1, 0, 1)), 1, 2),
        ])
        fifth = Ring((1, 1, 1, 1, 1))
        self.assertEqual(above(fifth, 2), [(one_table(4, 2), 1, 4)])
        self.assertEqual([row[1:] for row in above(fifth, 5)], [(4, 1)])
        self.assertEqual([row[1:] for row in above(fifth, 19)], [(1, 2), (1, 2)])
        self.assertEqual([row[1:] for row in above(fifth, 11)], [(1, 1)] * 4)
        self.assertEqual([row[1:] for row in above(fifth, 199)], [(1, 2), (1, 2)])

    def test_no_prime(self):
        for poly in RINGS:
            ring = Ring(poly)
            for p in (0, 1, -1, -2, -3, 4, 6, 9, 15, 121, 198, 200, 211, 223, 227, 997, 10 ** 99 + 289, 2 ** 100):
                self.assertIs(refused(above, ring, p).__class__, NoPrime, p)

    def test_the_told_list_is_the_askers(self):
        for poly in RINGS:
            ring = Ring(poly)
            for p in (2, 3, 199):
                told = above(ring, p)
                kept = list(told)
                told.reverse()
                told.append("other")
                del told[0]
                self.assertEqual(above(ring, p), kept)
                self.assertEqual(above(Ring(poly), p), kept)

    def test_two_rings_by_turns(self):
        one, other = Ring((5, 0, 1)), Ring((-10, 0, 1))
        for time in range(2):
            self.assertEqual(above(one, 2), [(((2, 0), (1, 1)), 2, 1)])
            self.assertEqual(above(other, 2), [(((2, 0), (0, 1)), 2, 1)])
            self.assertIs(refused(above, one, 211).__class__, NoPrime)

    def test_norms(self):
        for poly in RINGS:
            for prime, often, degree in above(Ring(poly), 199):
                self.assertEqual(norm_of(prime), 199 ** degree)
