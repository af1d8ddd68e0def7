"""Points 34 and 35, and of point 5 what it says of small numbers."""

import itertools
import unittest

from ringhouse.errors import TooGreat
from ringhouse.ideals import is_ideal, made, size
from ringhouse.lists import of_norm
from ringhouse.products import product
from ringhouse.ring import Ring
from ringhouse.small import bound, small
from tests.helper import RINGS, brute_holds, brute_ideal_product, brute_made, brute_times, one_table, refused


def brute_bound(poly):
    """The document's own sum."""
    n = len(poly) - 1
    t = (0, 1) + (0,) * (n - 2)
    powers = [(1,) + (0,) * (n - 1)]
    while len(powers) < 2 * n - 1:
        powers.append(brute_times(poly, powers[-1], t))
    total = 0
    for order in itertools.permutations(range(n)):
        part = 1
        for i, j in enumerate(order):
            part *= sum(abs(powers[i + k][j]) for k in range(n))
        total += part
    return total


def reach_of(m, n):
    return max(s for s in range(100) if s ** n <= m)


class Point34(unittest.TestCase):
    def test_by_the_documents_sum(self):
        for poly in RINGS:
            self.assertEqual(bound(Ring(poly)), brute_bound(poly), poly)

    def test_known_ones(self):
        # Of (c, b, 1): b(0, .) is 1, 1, and b(1, .) is abs(c), 1 + abs(b).
        self.assertEqual(bound(Ring((1, 0, 1))), 2)
        self.assertEqual(bound(Ring((5, 0, 1))), 6)
        self.assertEqual(bound(Ring((-3, 0, 1))), 4)
        self.assertEqual(bound(Ring((-99, 199, 1))), 299)
        # Of (-2, 0, 0, 1) the rows of b are 1, 1, 1 and 2, 1, 1 and 2, 2, 1.
        self.assertEqual(bound(Ring((-2, 0, 0, 1))), 13)
        # Of (1, 0, 0, 0, 1) each place of b is 1.
        self.assertEqual(bound(Ring((1, 0, 0, 0, 1))), 24)

    def test_two_rings_by_turns(self):
        one, other = Ring((1, 0, 1)), Ring((5, 0, 1))
        self.assertEqual([bound(ring) for ring in (one, other, one, other)], [2, 6, 2, 6])


class Point35(unittest.TestCase):
    def check(self, poly, ring, ideal):
        told = small(ring, ideal)
        self.assertIs(told.__class__, tuple)
        x, other = told
        s = reach_of(size(ideal), ring.degree)
        self.assertEqual(len(x), ring.degree)
        self.assertTrue(any(x))
        self.assertTrue(all(-s <= c <= s for c in x))
        self.assertTrue(brute_holds(ideal, x))
        self.assertTrue(is_ideal(ring, other))
        self.assertEqual(brute_ideal_product(poly, ideal, other), brute_made(poly, [x]))
        self.assertLessEqual(size(other), bound(ring))

    def test_all_ideals(self):
        for poly in RINGS:
            ring = Ring(poly)
            for m in range(1, 100, 1 if ring.degree == 2 else 2):
                for ideal in of_norm(ring, m):
                    self.check(poly, ring, ideal)

    def test_the_edges(self):
        for poly in RINGS:
            ring = Ring(poly)
            n = ring.degree
            x, other = small(ring, one_table(n))
            self.assertTrue(all(-1 <= c <= 1 for c in x))
            self.assertEqual(made(ring, [x]), other)
            k = {2: 9, 3: 4, 4: 3}[n]
            self.check(poly, ring, one_table(n, k))
            self.assertIs(refused(small, ring, one_table(n, k + 1)).__class__, TooGreat)

    def test_too_great(self):
        hundreds = 0
        for poly in RINGS:
            ring = Ring(poly)
            for m in range(2, 51):
                if 100 % m == 0:
                    for one, other in itertools.product(of_norm(ring, m), of_norm(ring, 100 // m)):
                        hundreds += 1
                        self.assertIs(refused(small, ring, product(ring, one, other)).__class__, TooGreat)
            great = one_table(ring.degree, 10 ** 100)
            self.assertIs(refused(small, ring, great).__class__, TooGreat)
        self.assertGreater(hundreds, 20)

    def test_norm_99(self):
        found = 0
        for poly in RINGS + ((-2, 0, 1), (2, 0, 1), (-22, 0, 1)):
            ring = Ring(poly)
            for ideal in of_norm(ring, 99):
                found += 1
                self.check(poly, ring, ideal)
        self.assertGreater(found, 5)

    def test_two_rings_by_turns(self):
        one, other = Ring((5, 0, 1)), Ring((-10, 0, 1))
        for time in range(2):
            self.check((5, 0, 1), one, ((2, 0), (1, 1)))
            self.check((-10, 0, 1), other, ((2, 0), (0, 1)))
            self.assertIs(refused(small, one, one_table(2, 10)).__class__, TooGreat)
