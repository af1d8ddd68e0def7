"""Point 11."""

import itertools
import unittest

from ringhouse.errors import NoPrime
from ringhouse.modp import mod_poly, mod_shared, mod_times, mod_parted
from ringhouse.split import split_by, stays
from ringhouse.whole import small_primes
from tests.helper import maker, refused


def stays_by_powers(g, p):
    """x to the (p ** k)-th less x shares nothing with g for k up to half of g's degree."""
    held = (0, 1)
    for k in range(1, (len(g) - 1) // 2 + 1):
        made = (1,)
        for figure in bin(p)[2:]:
            made = mod_parted(mod_times(made, made, p), g, p)[1]
            if figure == "1":
                made = mod_parted(mod_times(made, held, p), g, p)[1]
        held = made
        places = list(held) + [0, 0]
        places[1] -= 1
        if mod_shared(tuple(places), g, p) != (1,):
            return False
    return True


class Point11(unittest.TestCase):
    def check(self, poly, p):
        parts = split_by(poly, p)
        self.assertIs(parts.__class__, list)
        made = (1,)
        for g, often in parts:
            self.assertEqual(g[-1], 1)
            self.assertTrue(all(0 <= c < p for c in g))
            self.assertGreaterEqual(often, 1)
            self.assertTrue(stays_by_powers(g, p), (g, p))
            self.assertTrue(stays(g, p))
            for time in range(often):
                made = mod_times(made, g, p)
        self.assertEqual(made, mod_poly(poly, p))
        rows = [g for g, often in parts]
        self.assertEqual(rows, sorted(set(rows), key=lambda g: (len(g), g)))
        self.assertEqual(stays(poly, p), len(parts) == 1 and parts[0][1] == 1)

    def test_all_of_small_primes(self):
        for p in (2, 3):
            for degree in (1, 2, 3, 4):
                for row in itertools.product(range(p), repeat=degree):
                    self.check(row + (1,), p)

    def test_against_all_products(self):
        for p in (2, 3, 5):
            monic = {d: [row + (1,) for row in itertools.product(range(p), repeat=d)] for d in (1, 2, 3)}
            falling = set()
            for a in (1, 2, 3):
                for b in range(1, 5 - a):
                    falling |= {mod_times(f, g, p) for f in monic[a] for g in monic[b]}
            for degree in (1, 2, 3, 4):
                for row in itertools.product(range(p), repeat=degree):
                    self.assertEqual(stays(row + (1,), p), row + (1,) not in falling)

    def test_every_small_prime(self):
        source = maker(11)
        for p in small_primes():
            for degree in (1, 2, 3, 4):
                self.check(tuple(source.randrange(p) for i in range(degree)) + (1,), p)

    def test_places_of_any_size(self):
        source = maker(111)
        for p in (2, 7, 199):
            for time in range(8):
                for degree in (1, 2, 3, 4):
                    self.check(tuple(source.randint(-(10 ** 100), 10 ** 100) for i in range(degree)) + (1,), p)

    def test_products_of_degree_two(self):
        source = maker(1111)
        for p in (2, 3, 13, 199):
            staying = []
            while len(staying) < (1 if p == 2 else 3):
                g = (source.randrange(p), source.randrange(p), 1)
                if stays(g, p) and g not in staying:
                    staying.append(g)
            for g, h in itertools.product(staying, repeat=2):
                told = [(g, 2)] if g == h else [(k, 1) for k in sorted((g, h))]
                self.assertEqual(split_by(mod_times(g, h, p), p), told)

    def test_factors_alike(self):
        self.assertEqual(split_by((0, 0, 0, 0, 1), 2), [((0, 1), 4)])
        self.assertEqual(split_by((1, 0, 0, 0, 1), 2), [((1, 1), 4)])
        self.assertEqual(split_by((1, 0, 1, 0, 1), 2), [((1, 1, 1), 2)])
        self.assertEqual(split_by((1, 0, 2, 0, 1), 199), [((1, 0, 1), 2)])
        self.assertEqual(split_by((0, 0, 1), 199), [((0, 1), 2)])

    def test_order(self):
        self.assertEqual(split_by((0, -1, 0, 1), 199), [((0, 1), 1), ((1, 1), 1), ((198, 1), 1)])
        self.assertEqual(split_by((0, -1, 0, 0, 1), 2), [((0, 1), 1), ((1, 1), 1), ((1, 1, 1), 1)])
        self.assertEqual(split_by((4, 0, 0, 0, 1), 7), [((2, 2, 1), 1), ((2, 5, 1), 1)])

    def test_degree_one_stays(self):
        for p in (2, 199):
            self.assertTrue(stays((-5, 1), p))
            self.assertEqual(split_by((-1, 1), p), [((p - 1, 1), 1)])

    def test_no_prime(self):
        others = [0, 1, -1, -2, -199, 4, 6, 9, 25, 200, 198, 211, 223, 997, 199 * 199, 2 ** 61 - 1, 10 ** 99]
        for p in others:
            for poly in ((1, 1), (1, 0, 1), (1, 0, 0, 0, 1)):
                self.assertIs(refused(split_by, poly, p).__class__, NoPrime, p)
                self.assertIs(refused(stays, poly, p).__class__, NoPrime, p)
        for p in range(-5, 300):
            if p not in small_primes():
                self.assertIs(refused(stays, (0, 1), p).__class__, NoPrime, p)
                self.assertIs(refused(split_by, (0, 1), p).__class__, NoPrime, p)

    def test_refused_ones_may_be_asked_again(self):
        for time in range(3):
            self.assertIs(refused(split_by, (1, 1), 4).__class__, NoPrime)
            self.assertIs(refused(stays, (1, 1), 4).__class__, NoPrime)
            self.assertEqual(split_by((1, 1), 2), [((1, 1), 1)])

    def test_told_lists_are_the_askers_own(self):
        held = split_by((0, 1, 1), 2)
        held.clear()
        self.assertEqual(split_by((0, 1, 1), 2), [((0, 1), 1), ((1, 1), 1)])
