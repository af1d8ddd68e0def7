"""Points 26 and 27."""

import itertools
import unittest

from ringhouse.ideals import inside, is_ideal, made, size, whole_ring
from ringhouse.products import partner, product, raised
from ringhouse.ring import Ring
from tests.helper import (
    RINGS, brute_ideal_product, brute_times, maker, norm_of, one_table, some_ideals, some_number, whole,
)


class Point26(unittest.TestCase):
    def test_small_ones(self):
        for poly in RINGS:
            ring = Ring(poly)
            ideals = some_ideals(poly, 12 if ring.degree < 4 else 9)
            for one, other in itertools.product(ideals, repeat=2):
                told = product(ring, one, other)
                self.assertEqual(told, brute_ideal_product(poly, one, other))
                self.assertEqual(size(told), norm_of(one) * norm_of(other))
                self.assertEqual(product(ring, other, one), told)
                self.assertTrue(is_ideal(ring, told))
                self.assertTrue(inside(told, one) and inside(told, other))

    def test_with_the_whole_ring(self):
        for poly in RINGS:
            ring = Ring(poly)
            every = whole_ring(ring)
            for ideal in some_ideals(poly):
                self.assertEqual(product(ring, ideal, every), ideal)
                self.assertEqual(product(ring, every, ideal), ideal)

    def test_of_made_ones(self):
        source = maker(26)
        for poly in RINGS:
            ring = Ring(poly)
            n = ring.degree
            for reach in (3, 50, 10 ** (480 // n)):
                x, y = (some_number(source, n, reach) for i in range(2))
                one, other = made(ring, [x]), made(ring, [y])
                told = product(ring, one, other)
                self.assertEqual(told, made(ring, [brute_times(poly, x, y)]))
                self.assertEqual(size(told), size(one) * size(other))

    def test_great_ones_that_one_number_does_not_make(self):
        source = maker(261)
        for poly in RINGS:
            ring = Ring(poly)
            n = ring.degree
            for ideal in some_ideals(poly):
                great = product(ring, ideal, made(ring, [some_number(source, n, 10 ** (400 // n))]))
                told = product(ring, great, great)
                self.assertEqual(size(told), size(great) ** 2)
                self.assertTrue(is_ideal(ring, told))

    def test_known_ones(self):
        ring = Ring((5, 0, 1))
        two, three, other = ((2, 0), (1, 1)), ((3, 0), (1, 1)), ((3, 0), (2, 1))
        self.assertEqual(product(ring, two, two), one_table(2, 2))
        self.assertEqual(product(ring, two, three), ((6, 0), (1, 1)))
        self.assertEqual(product(ring, three, other), one_table(2, 3))
        self.assertEqual(product(ring, three, three), ((9, 0), (7, 1)))

    def test_raised(self):
        for poly in RINGS:
            ring = Ring(poly)
            for ideal in some_ideals(poly)[:6]:
                due = whole_ring(ring)
                for k in range(21):
                    self.assertEqual(raised(ring, ideal, k), due)
                    due = brute_ideal_product(poly, due, ideal)

    def test_raised_at_the_edges(self):
        source = maker(262)
        for poly in RINGS:
            ring = Ring(poly)
            n = ring.degree
            every = whole_ring(ring)
            great = made(ring, [some_number(source, n, 10 ** (480 // n))])
            self.assertEqual(raised(ring, great, 0), every)
            self.assertEqual(raised(ring, great, 1), great)
            self.assertEqual(size(raised(ring, great, 2)), size(great) ** 2)
            self.assertEqual([raised(ring, every, k) for k in (0, 1, 20)], [every] * 3)
            self.assertEqual(raised(ring, one_table(n, 3), 20), one_table(n, 3 ** 20))
            middle = made(ring, [some_number(source, n, 10 ** (60 // n))])
            self.assertEqual(size(raised(ring, middle, 20)), size(middle) ** 20)


class Point27(unittest.TestCase):
    def check(self, ring, ideal):
        told = partner(ring, ideal)
        self.assertTrue(is_ideal(ring, told))
        self.assertEqual(product(ring, ideal, told), one_table(ring.degree, ideal[0][0]))

    def test_small_ones(self):
        for poly in RINGS:
            ring = Ring(poly)
            for ideal in some_ideals(poly):
                self.check(ring, ideal)
                self.check(ring, raised(ring, ideal, 3))

    def test_the_whole_ring_and_whole_numbers(self):
        for poly in RINGS:
            ring = Ring(poly)
            n = ring.degree
            self.assertEqual(partner(ring, whole_ring(ring)), whole_ring(ring))
            for k in (2, 6, 211, 10 ** 100 - 1):
                self.assertEqual(partner(ring, made(ring, [whole(n, k)])), whole_ring(ring))

    def test_great_ones(self):
        source = maker(27)
        for poly in RINGS:
            ring = Ring(poly)
            n = ring.degree
            # The partner of one whose norm is its corner 0 has this norm to the n - 1.
            self.check(ring, made(ring, [some_number(source, n, 10 ** (400 // n // (n - 1)))]))
            k = source.randrange(10 ** 50)
            self.check(ring, product(ring, some_ideals(poly)[-1], made(ring, [whole(n, k + 1)])))

    def test_known_ones(self):
        ring = Ring((5, 0, 1))
        self.assertEqual(partner(ring, ((3, 0), (1, 1))), ((3, 0), (2, 1)))
        self.assertEqual(partner(ring, ((2, 0), (1, 1))), ((2, 0), (1, 1)))
        cubic = Ring((-2, 0, 0, 1))
        self.assertEqual(partner(cubic, made(cubic, [(0, 1, 0)])), made(cubic, [(0, 0, 1)]))

    def test_two_rings_by_turns(self):
        one, other = Ring((5, 0, 1)), Ring((-1, 1, 1))
        for time in range(2):
            self.assertEqual(partner(one, ((5, 0), (0, 1))), ((5, 0), (0, 1)))
            self.assertEqual(partner(other, ((5, 0), (3, 1))), ((5, 0), (3, 1)))
            self.assertEqual(raised(one, ((5, 0), (0, 1)), 2), one_table(2, 5))
            self.assertEqual(raised(other, ((5, 0), (3, 1)), 2), one_table(2, 5))
