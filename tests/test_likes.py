"""Points 36, 37, 39 and 40, and of point 5 what it says of alike ideals."""

import itertools
import math
import unittest

from ringhouse.classes import Classes
from ringhouse.errors import NotTwo
from ringhouse.homes import home, road
from ringhouse.ideals import made, whole_ring
from ringhouse.likes import alike, maker
from ringhouse.lists import of_norm
from ringhouse.numbers import norm, number_of
from ringhouse.products import product
from ringhouse.ring import Ring
from ringhouse.units import as_power, basic, units
from tests.helper import (
    ABOVE, BELOW, GREAT_ONES, GREAT_UNITS, RINGS, brute_alike, brute_ideal_product, brute_made, brute_norm,
    brute_of_size, norm_of, one_table, refused, rings_of, some_ideals, some_number, turned, whole,
)
from tests.helper import maker as source_of


def all_rings():
    return rings_of(BELOW + ABOVE + GREAT_ONES + GREAT_UNITS)


class Alike(unittest.TestCase):
    def check_told(self, poly, told, one, other):
        """That what is told for two alike ideals is as point 39 says."""
        self.assertIs(told.__class__, tuple)
        x, k = told
        self.assertIs(x.__class__, tuple)
        self.assertEqual(len(x), 2)
        self.assertTrue(any(x))
        self.assertGreaterEqual(k, 1)
        self.assertEqual(math.gcd(k, x[0], x[1]), 1)
        there = brute_ideal_product(poly, brute_made(poly, [x]), one)
        self.assertEqual(there, brute_ideal_product(poly, one_table(2, k), other))

    def check_both(self, poly, ring, one, other):
        self.check_told(poly, alike(ring, one, other), one, other)
        self.check_told(poly, alike(ring, other, one), other, one)


class Point36(unittest.TestCase):
    def test_not_two_ahead_of_all_else(self):
        for poly in RINGS:
            if len(poly) == 3:
                continue
            ring = Ring(poly)
            n = ring.degree
            calls = [(Classes, ring), (units, ring), (basic, ring)]
            for ideal in (whole_ring(ring), one_table(n, 6), one_table(2), (), ((0, 0), (0, 0))):
                calls += [(call, ring, ideal) for call in (home, road, maker)]
                calls += [(alike, ring, ideal, ideal), (alike, ring, whole_ring(ring), ideal)]
            for x in (number_of(ring, 1), number_of(ring, 0), (1, 0), (0, 0), (5, 3), ()):
                calls.append((as_power, ring, x))
            for call in calls:
                self.assertIs(refused(*call).__class__, NotTwo, call)

    def test_a_ring_of_degree_two_beside_another_one(self):
        cubic, square = Ring((-2, 0, 0, 1)), Ring((-2, 0, 1))
        for time in range(2):
            self.assertIs(refused(basic, cubic).__class__, NotTwo)
            self.assertEqual(basic(square), (1, 1))
            self.assertIs(refused(Classes, cubic).__class__, NotTwo)
            self.assertEqual(Classes(square).divisors(), [])


class Point37(Alike):
    def test_all_pairs_of_small_ideals(self):
        for poly, ring in rings_of(BELOW[4:12] + ABOVE[3:9]):
            unlike = 0
            for one, other in itertools.product(some_ideals(poly, 9), repeat=2):
                told = alike(ring, one, other)
                if brute_alike(poly, one, other):
                    self.check_told(poly, told, one, other)
                else:
                    self.assertIsNone(told)
                    unlike += 1
            self.assertEqual(unlike > 0, len(Classes(ring).homes()) > 1)

    def test_multiples_by_numbers_of_either_sign(self):
        source = source_of(37)
        signs = set()
        for poly, ring in all_rings():
            for ideal in some_ideals(poly, 8)[-3:]:
                for reach in (2, 9, 10 ** 30):
                    x = some_number(source, 2, reach)
                    signs.add((ring.measure > 0, norm(ring, x) > 0))
                    self.check_both(poly, ring, ideal, product(ring, made(ring, [x]), ideal))
        self.assertEqual(signs, {(False, True), (True, True), (True, False)})

    def test_the_told_example(self):
        ring = Ring((-3, 0, 1))
        ideal = made(ring, [(1, 1)])
        self.assertEqual(norm(ring, (1, 1)), -2)
        self.check_both(ring.poly, ring, ideal, whole_ring(ring))

    def test_unlike_ones(self):
        two, three = ((2, 0), (1, 1)), ((3, 0), (1, 1))
        ring = Ring((5, 0, 1))
        for ideal in (two, three, product(ring, two, one_table(2, 10 ** 50))):
            self.assertIsNone(alike(ring, whole_ring(ring), ideal))
            self.assertIsNone(alike(ring, ideal, whole_ring(ring)))
        self.check_both(ring.poly, ring, two, three)
        # An ideal and the one with the other root in the place of t need not be alike.
        ring = Ring((6, 1, 1))
        self.assertIsNone(alike(ring, ((2, 0), (0, 1)), ((2, 0), (1, 1))))
        # No number has the norm 2 or -2 here, of whichever sign.
        ring = Ring((-10, 0, 1))
        self.assertIsNone(alike(ring, ((2, 0), (0, 1)), whole_ring(ring)))


class Point39(Alike):
    def test_with_itself_and_with_multiples(self):
        for poly, ring in all_rings():
            for ideal in [whole_ring(ring)] + some_ideals(poly, 8)[-3:]:
                for k in (1, 2, 3, 12, 10 ** 80 + 7):
                    self.check_both(poly, ring, ideal, product(ring, one_table(2, k), ideal))
                x, k = alike(ring, ideal, ideal)
                self.assertEqual(k, 1)
                self.assertIn(norm(ring, x), (1, -1))
                # Both with a multiple: what divides k and both places is gone.
                one, other = product(ring, one_table(2, 6), ideal), product(ring, one_table(2, 10), ideal)
                self.assertEqual(alike(ring, one, other)[1], 3)
                self.assertEqual(alike(ring, other, one)[1], 5)

    def test_great_norms(self):
        source = source_of(391)
        for poly, ring in all_rings():
            for ideal in (of_norm(ring, 2) + of_norm(ring, 3) + of_norm(ring, 5))[-1:]:
                one = product(ring, made(ring, [some_number(source, 2, 10 ** 245)]), ideal)
                other = product(ring, made(ring, [some_number(source, 2, 10 ** 200)]), ideal)
                self.assertGreater(norm_of(one), 10 ** 470)
                self.check_both(poly, ring, one, other)
                self.check_both(poly, ring, one, ideal)
                unlike = [table for table in some_ideals(poly, 12) if home(ring, table) != home(ring, ideal)]
                for table in unlike[:2]:
                    self.assertIsNone(alike(ring, one, table))
                    self.assertIsNone(alike(ring, table, one))

    def test_great_least_units(self):
        for poly, ring in rings_of(GREAT_UNITS):
            for one, other in itertools.combinations(some_ideals(poly, 5)[-5:], 2):
                if home(ring, one) == home(ring, other):
                    self.check_both(poly, ring, one, other)
                else:
                    self.assertIsNone(alike(ring, one, other))

    def test_alike_just_where_the_homes_are_equal(self):
        for poly, ring in rings_of(BELOW + ABOVE + GREAT_ONES):
            for one, other in itertools.combinations(some_ideals(poly, 7), 2):
                self.assertEqual(alike(ring, one, other) is not None, home(ring, one) == home(ring, other))

    def test_two_rings_by_turns(self):
        one, other = Ring((5, 0, 1)), Ring((-10, 0, 1))
        for time in range(2):
            self.assertIsNone(alike(one, one_table(2), ((2, 0), (1, 1))))
            self.assertIsNone(alike(other, one_table(2), ((2, 0), (0, 1))))
            self.check_both(one.poly, one, ((3, 0), (1, 1)), ((3, 0), (2, 1)))
            self.check_both(other.poly, other, ((3, 0), (1, 1)), ((3, 0), (2, 1)))


class Point40(unittest.TestCase):
    def check_maker(self, poly, ring, ideal):
        x = maker(ring, ideal)
        self.assertIs(x.__class__, tuple)
        self.assertEqual(brute_made(poly, [x]), ideal)
        return x

    def test_small_ideals_against_a_search(self):
        for poly, ring in rings_of(BELOW + ABOVE):
            for ideal in some_ideals(poly, 20):
                if brute_of_size(poly, ideal) is None:
                    self.assertIsNone(maker(ring, ideal), (poly, ideal))
                else:
                    self.check_maker(poly, ring, ideal)

    def test_made_by_one_number(self):
        source = source_of(40)
        signs = set()
        for poly, ring in all_rings():
            for reach in (1, 3, 50, 10 ** 20, 10 ** 100 - 1, 10 ** 240):
                x = some_number(source, 2, reach)
                told = self.check_maker(poly, ring, made(ring, [x]))
                self.assertEqual(abs(brute_norm(poly, told)), abs(norm(ring, x)))
                signs.add((ring.measure > 0, norm(ring, x) > 0))
        self.assertEqual(signs, {(False, True), (True, True), (True, False)})

    def test_whole_numbers(self):
        for poly, ring in all_rings():
            for k in (1, 2, 30, 10 ** 99):
                self.check_maker(poly, ring, made(ring, [whole(2, k)]))
            self.assertIn(norm(ring, maker(ring, whole_ring(ring))), (1, -1))

    def test_none(self):
        for poly, ideal in (
            ((5, 0, 1), ((2, 0), (1, 1))), ((5, 0, 1), ((6, 0), (3, 3))), ((-10, 0, 1), ((2, 0), (0, 1))),
            ((6, 1, 1), ((2, 0), (0, 1))), ((-82, 0, 1), ((3, 0), (1, 1))), ((-15, 0, 1), ((2, 0), (1, 1))),
        ):
            ring = Ring(poly)
            self.assertIsNone(maker(ring, ideal))
            for k in (2, 10 ** 60):
                self.assertIsNone(maker(ring, product(ring, one_table(2, k), ideal)))
            # With the one that has the other root in the place of t it makes a whole number.
            self.check_maker(poly, ring, product(ring, ideal, turned(poly, ideal)))
