"""Point 32."""

import unittest

from ringhouse.errors import TooGreat
from ringhouse.ideals import is_ideal, size, whole_ring
from ringhouse.lists import of_norm
from ringhouse.ring import Ring
from tests.helper import RINGS, brute_ideals, one_table, refused


class Point32(unittest.TestCase):
    def test_against_a_search(self):
        for poly in RINGS:
            ring = Ring(poly)
            for m in range(1, {2: 100, 3: 28, 4: 13}[ring.degree]):
                told = of_norm(ring, m)
                self.assertIs(told.__class__, list)
                self.assertEqual(told, list(brute_ideals(poly, m)), (poly, m))

    def test_great_norms_against_a_search(self):
        for poly in ((-2, 0, 0, 1), (-198, -65, 0, 1)):
            for m in (64, 97, 99):
                self.assertEqual(of_norm(Ring(poly), m), list(brute_ideals(poly, m)), (poly, m))

    def test_every_norm(self):
        for poly in RINGS:
            ring = Ring(poly)
            for m in range(1, 100):
                told = of_norm(ring, m)
                self.assertEqual(told, sorted(told))
                self.assertEqual(len(set(told)), len(told))
                self.assertTrue(all(is_ideal(ring, table) and size(table) == m for table in told))

    def test_how_many_there_are(self):
        # In the ring of (1, 0, 1) there are as many ideals of norm m as the divisors of m that leave
        # the rest 1 by 4 are more than those that leave the rest 3.
        ring = Ring((1, 0, 1))
        for m in range(1, 100):
            rests = [d % 4 for d in range(1, m + 1) if m % d == 0]
            self.assertEqual(len(of_norm(ring, m)), rests.count(1) - rests.count(3))

    def test_below_one(self):
        for poly in RINGS:
            ring = Ring(poly)
            for m in (0, -1, -99, -100, -(10 ** 100) + 1):
                self.assertEqual(of_norm(ring, m), [])
            self.assertEqual(of_norm(ring, 1), [whole_ring(ring)])

    def test_too_great(self):
        for poly in RINGS:
            ring = Ring(poly)
            for m in (100, 101, 211, 10 ** 100 - 1):
                self.assertIs(refused(of_norm, ring, m).__class__, TooGreat)
            self.assertIs(of_norm(ring, 99).__class__, list)

    def test_known_ones(self):
        ring = Ring((1, 0, 1))
        self.assertEqual(of_norm(ring, 3), [])
        self.assertEqual(of_norm(ring, 9), [one_table(2, 3)])
        self.assertEqual(of_norm(ring, 8), [((4, 0), (2, 2))])
        self.assertEqual(of_norm(ring, 25), [((5, 0), (0, 5)), ((25, 0), (7, 1)), ((25, 0), (18, 1))])
        self.assertEqual(of_norm(ring, 10), [((10, 0), (3, 1)), ((10, 0), (7, 1))])
        self.assertEqual(of_norm(ring, 99), [])
        self.assertEqual(of_norm(Ring((1, 1, 1, 1, 1)), 16), [one_table(4, 2)])

    def test_the_told_list_is_the_askers(self):
        ring = Ring((5, 0, 1))
        for m in (0, 1, 9, 99):
            told = of_norm(ring, m)
            kept = list(told)
            told.append("other")
            self.assertEqual(of_norm(ring, m), kept)

    def test_two_rings_by_turns(self):
        one, other = Ring((5, 0, 1)), Ring((-10, 0, 1))
        for time in range(2):
            self.assertEqual(of_norm(one, 2), [((2, 0), (1, 1))])
            self.assertEqual(of_norm(other, 2), [((2, 0), (0, 1))])
