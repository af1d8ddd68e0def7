"""Point 33."""

import functools
import itertools
import unittest

from ringhouse.boxes import boxed
from ringhouse.errors import TooGreat
from ringhouse.ideals import made, whole_ring
from ringhouse.ring import Ring
from tests.helper import RINGS, brute_holds, brute_norm, one_table, refused, some_ideals, whole

GREATEST = {2: 9, 3: 3, 4: 2}


@functools.lru_cache(maxsize=None)
def box_of(poly, reach):
    """The rows of a box, each with its norm without its sign."""
    rows = itertools.product(range(-reach, reach + 1), repeat=len(poly) - 1)
    return [(x, abs(brute_norm(poly, x))) for x in rows]


def brute_boxed(poly, ideal, reach, m):
    return [x for x, size in box_of(poly, reach) if size == m and brute_holds(ideal, x)]


class Point33(unittest.TestCase):
    def test_against_a_search(self):
        for poly in RINGS:
            ring = Ring(poly)
            for ideal in some_ideals(poly)[:4]:
                for reach in (0, 1, 2):
                    for m in (0, 1, 2, 3, 4, 6, 12):
                        told = boxed(ring, ideal, reach, m)
                        self.assertIs(told.__class__, list)
                        self.assertEqual(told, brute_boxed(poly, ideal, reach, m), (poly, ideal, reach, m))

    def test_the_greatest_box(self):
        for poly in RINGS:
            ring = Ring(poly)
            n = ring.degree
            reach = GREATEST[n]
            corner = (reach,) * n
            for x in (corner, tuple(-c for c in corner), whole(n, reach), (0,) * (n - 1) + (-reach,)):
                m = abs(brute_norm(poly, x))
                told = boxed(ring, made(ring, [x]), reach, m)
                self.assertIn(x, told)
                self.assertIn(tuple(-c for c in x), told)
                self.assertEqual(told, brute_boxed(poly, made(ring, [x]), reach, m))

    def test_too_great(self):
        for poly in RINGS:
            ring = Ring(poly)
            n = ring.degree
            for ideal in (whole_ring(ring), one_table(n, 2)):
                for reach in (GREATEST[n] + 1, 10, 10 ** 100 - 1):
                    for m in (0, 1, 50, -1, -(10 ** 100) + 1):
                        self.assertIs(refused(boxed, ring, ideal, reach, m).__class__, TooGreat)

    def test_below_nought(self):
        for poly in RINGS:
            ring = Ring(poly)
            n = ring.degree
            every = whole_ring(ring)
            for reach in (-1, -2, -9, -100, -(10 ** 100) + 1):
                for m in (0, 1, -1):
                    self.assertEqual(boxed(ring, every, reach, m), [])
            for m in (-1, -2, -(10 ** 100) + 1):
                for reach in (0, 1, GREATEST[n]):
                    self.assertEqual(boxed(ring, every, reach, m), [])

    def test_nought_alone(self):
        for poly in RINGS:
            ring = Ring(poly)
            n = ring.degree
            for ideal in (whole_ring(ring), one_table(n, 7)):
                for reach in (0, 1, GREATEST[n]):
                    self.assertEqual(boxed(ring, ideal, reach, 0), [whole(n, 0)])
                for m in (1, 2, 100):
                    self.assertEqual(boxed(ring, ideal, 0, m), [])

    def test_known_ones(self):
        ring = Ring((1, 0, 1))
        every = whole_ring(ring)
        self.assertEqual(boxed(ring, every, 1, 1), [(-1, 0), (0, -1), (0, 1), (1, 0)])
        self.assertEqual(boxed(ring, every, 1, 2), [(-1, -1), (-1, 1), (1, -1), (1, 1)])
        self.assertEqual(boxed(ring, ((5, 0), (2, 1)), 3, 5), [(-2, -1), (-1, 2), (1, -2), (2, 1)])
        self.assertEqual(boxed(ring, every, 9, 81), [(-9, 0), (0, -9), (0, 9), (9, 0)])
        self.assertEqual(boxed(ring, every, 8, 81), [])
        # Norms of either sign.
        other = Ring((-3, 0, 1))
        self.assertEqual(boxed(other, every, 1, 2), [(-1, -1), (-1, 1), (1, -1), (1, 1)])
        self.assertEqual(boxed(other, every, 2, 1), [(-2, -1), (-2, 1), (-1, 0), (1, 0), (2, -1), (2, 1)])

    def test_great_ideals_and_norms(self):
        for poly in RINGS:
            ring = Ring(poly)
            n = ring.degree
            self.assertEqual(boxed(ring, one_table(n, 10 ** 100), GREATEST[n], 0), [whole(n, 0)])
            self.assertEqual(boxed(ring, one_table(n, 10 ** 100), GREATEST[n], 1), [])
            self.assertEqual(boxed(ring, whole_ring(ring), GREATEST[n], 10 ** 100 - 1), [])

    def test_the_told_list_is_the_askers(self):
        ring = Ring((1, 0, 1))
        told = boxed(ring, whole_ring(ring), 1, 1)
        told.clear()
        self.assertEqual(len(boxed(ring, whole_ring(ring), 1, 1)), 4)

    def test_two_rings_by_turns(self):
        one, other = Ring((1, 0, 1)), Ring((-2, 0, 1))
        for time in range(2):
            self.assertEqual(len(boxed(one, one_table(2), 1, 1)), 4)
            self.assertEqual(len(boxed(other, one_table(2), 1, 1)), 6)
