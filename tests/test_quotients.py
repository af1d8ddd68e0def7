"""Point 28."""

import itertools
import unittest

from ringhouse.above import above
from ringhouse.double import meet
from ringhouse.errors import NotHeld
from ringhouse.ideals import inside, is_ideal, joined, made, size, whole_ring
from ringhouse.products import product, raised
from ringhouse.quotients import colon, quotient
from ringhouse.ring import Ring
from tests.helper import (
    RINGS, brute_holds, brute_ideal_product, brute_often, brute_times, maker, norm_of, one_table, refused, rests_by,
    some_ideals, some_number, whole,
)


class Point28(unittest.TestCase):
    def test_a_product_by_one_of_its_ideals(self):
        for poly in RINGS:
            ring = Ring(poly)
            ideals = some_ideals(poly, 12 if ring.degree < 4 else 9)
            for one, other in itertools.product(ideals, repeat=2):
                both = brute_ideal_product(poly, one, other)
                self.assertEqual(quotient(ring, both, other), one)
                self.assertEqual(quotient(ring, both, one), other)
                self.assertEqual(colon(ring, both, other), one)

    def test_not_held(self):
        for poly in RINGS:
            ring = Ring(poly)
            ideals = some_ideals(poly, 12 if ring.degree < 4 else 9)
            for one, other in itertools.product(ideals, repeat=2):
                if all(brute_holds(other, row) for row in one):
                    told = quotient(ring, one, other)
                    self.assertEqual(brute_ideal_product(poly, told, other), one)
                else:
                    self.assertIs(refused(quotient, ring, one, other).__class__, NotHeld)

    def test_not_held_where_the_norms_fit(self):
        ring = Ring((5, 0, 1))
        three, other = ((3, 0), (1, 1)), ((3, 0), (2, 1))
        self.assertIs(refused(quotient, ring, three, other).__class__, NotHeld)
        self.assertIs(refused(quotient, ring, raised(ring, three, 2), other).__class__, NotHeld)
        self.assertIs(refused(quotient, ring, raised(ring, three, 2), one_table(2, 3)).__class__, NotHeld)
        self.assertIs(refused(quotient, ring, whole_ring(ring), three).__class__, NotHeld)
        self.assertEqual(quotient(ring, one_table(2, 3), other), three)

    def test_by_itself_and_by_the_whole_ring(self):
        for poly in RINGS:
            ring = Ring(poly)
            every = whole_ring(ring)
            for ideal in some_ideals(poly):
                for call in (quotient, colon):
                    self.assertEqual(call(ring, ideal, ideal), every)
                    self.assertEqual(call(ring, ideal, every), ideal)
                self.assertEqual(colon(ring, every, ideal), every)

    def test_colon_against_all_rests(self):
        for poly in RINGS:
            ring = Ring(poly)
            ideals = some_ideals(poly, 9)
            for one, other in itertools.product(ideals, repeat=2):
                told = colon(ring, one, other)
                # The first ideal is inside its colon: what holds of its rests holds of all numbers.
                self.assertTrue(inside(one, told))
                for x in rests_by(one):
                    due = all(brute_holds(one, brute_times(poly, x, y)) for y in other)
                    self.assertEqual(brute_holds(told, x), due)

    def test_colon_in_each_case(self):
        ring = Ring((5, 0, 1))
        two, three, other = ((2, 0), (1, 1)), ((3, 0), (1, 1)), ((3, 0), (2, 1))
        self.assertEqual(colon(ring, one_table(2, 3), other), three)
        self.assertEqual(colon(ring, other, one_table(2, 3)), whole_ring(ring))
        self.assertEqual(colon(ring, three, other), three)
        self.assertEqual(colon(ring, raised(ring, two, 3), raised(ring, two, 2)), two)
        self.assertEqual(colon(ring, raised(ring, two, 3), product(ring, two, three)), one_table(2, 2))

    def test_great_ones(self):
        source = maker(28)
        for poly in RINGS:
            ring = Ring(poly)
            n = ring.degree
            reach = 10 ** (240 // n)
            for ideal in some_ideals(poly)[1:4]:
                one = product(ring, ideal, made(ring, [some_number(source, n, reach)]))
                other = product(ring, ideal, made(ring, [some_number(source, n, reach)]))
                both = product(ring, one, other)
                self.assertEqual(quotient(ring, both, other), one)
                self.assertEqual(colon(ring, both, one), other)
                told = colon(ring, one, other)
                self.assertTrue(is_ideal(ring, told))
                self.assertTrue(inside(one, told))
                self.assertTrue(inside(product(ring, told, other), one))
                self.assertEqual(colon(ring, other, both), whole_ring(ring))
                self.assertIs(refused(quotient, ring, other, both).__class__, NotHeld)

    def test_by_whole_numbers(self):
        for poly in RINGS:
            ring = Ring(poly)
            n = ring.degree
            self.assertEqual(quotient(ring, made(ring, [whole(n, 12)]), made(ring, [whole(n, -4)])), one_table(n, 3))
            self.assertEqual(colon(ring, one_table(n, 12), one_table(n, 8)), one_table(n, 3))
            self.assertIs(refused(quotient, ring, one_table(n, 12), one_table(n, 8)).__class__, NotHeld)

    def test_refused_ones_may_be_asked_again(self):
        ring = Ring((-2, 0, 0, 1))
        one, other = one_table(3, 2), one_table(3, 3)
        for time in range(3):
            self.assertIs(refused(quotient, ring, one, other).__class__, NotHeld)
            self.assertEqual(quotient(ring, one_table(3, 6), other), one)
            self.assertEqual(size(colon(ring, one, other)), norm_of(one))


class Point5(unittest.TestCase):
    def test_how_often_primes_go_into_what_comes_of_two(self):
        source = maker(5)
        for poly in RINGS:
            ring = Ring(poly)
            primes = [row[0] for p in (2, 3, 5) for row in above(ring, p)]
            for time in range(4):
                one, other = (whole_ring(ring) for i in range(2))
                many = [(source.randint(0, 2), source.randint(0, 2)) for prime in primes]
                for prime, (k, l) in zip(primes, many):
                    one = product(ring, one, raised(ring, prime, k))
                    other = product(ring, other, raised(ring, prime, l))
                for prime, (k, l) in zip(primes, many):
                    self.assertEqual(brute_often(poly, prime, one), k)
                    self.assertEqual(brute_often(poly, prime, product(ring, one, other)), k + l)
                    self.assertEqual(brute_often(poly, prime, joined(one, other)), min(k, l))
                    self.assertEqual(brute_often(poly, prime, meet(one, other)), max(k, l))
                    self.assertEqual(brute_often(poly, prime, colon(ring, one, other)), max(0, k - l))
