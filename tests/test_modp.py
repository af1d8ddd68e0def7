"""Point 10."""

import itertools
import unittest

from ringhouse.modp import mod_parted, mod_poly, mod_shared, mod_times
from tests.helper import brute_product, maker


def brought(row, p):
    places = [c % p for c in row]
    while places and places[-1] == 0:
        places.pop()
    return tuple(places)


def plus(a, b, p):
    return brought([x + y for x, y in itertools.zip_longest(a, b, fillvalue=0)], p)


def some(source, p):
    reach = source.choice((1, p, 10 ** 100))
    row = tuple(source.randint(-reach, reach) for i in range(source.randint(0, 19)))
    # Some last places are multiples of p, but not 0.
    return row + source.choice(((), (p,), (-7 * p, p * 10 ** 50), (1,)))


class Point10(unittest.TestCase):
    def test_mod_poly(self):
        self.assertEqual(mod_poly((), 2), ())
        self.assertEqual(mod_poly((-1, 5, 10, 0, -20), 5), (4,))
        self.assertEqual(mod_poly((-1, -2, -3), 2), (1, 0, 1))
        self.assertEqual(mod_poly((199, -199, 398), 199), ())
        self.assertEqual(mod_poly((-1, 200, 10 ** 100), 199), (198, 1, 10 ** 100 % 199))

    def test_products(self):
        source = maker(10)
        for p in (2, 3, 5, 7, 97, 199):
            for time in range(80):
                a, b = some(source, p), some(source, p)
                self.assertEqual(mod_times(a, b, p), brought(brute_product(a, b) if a and b else (), p))

    def test_parted(self):
        source = maker(101)
        for p in (2, 3, 5, 7, 97, 199):
            for time in range(80):
                a, b = some(source, p), some(source, p)
                if brought(b, p) == ():
                    continue
                quotient, rest = mod_parted(a, b, p)
                self.assertEqual(quotient, brought(quotient, p))
                self.assertEqual(rest, brought(rest, p))
                self.assertLess(len(rest), len(brought(b, p)))
                self.assertEqual(plus(brute_product(quotient, brought(b, p)), rest, p), brought(a, p))

    def test_parted_at_the_edges(self):
        self.assertEqual(mod_parted((), (3,), 5), ((), ()))
        self.assertEqual(mod_parted((1, 2), (3,), 5), ((2, 4), ()))
        self.assertEqual(mod_parted((1, 2), (3, 0, 1), 5), ((), (1, 2)))
        self.assertEqual(mod_parted((0, 0, 1), (0, 198, 199), 199), ((0, 198), ()))
        self.assertEqual(mod_parted((5, 10), (1, 1, 5), 5), ((), ()))

    def test_shared_at_the_edges(self):
        self.assertEqual(mod_shared((), (), 2), ())
        self.assertEqual(mod_shared((2, 4), (), 2), ())
        self.assertEqual(mod_shared((199,), (-199, 398), 199), ())
        self.assertEqual(mod_shared((2, 4), (), 7), (4, 1))
        self.assertEqual(mod_shared((), (2, 4), 7), (4, 1))
        self.assertEqual(mod_shared((3,), (2, 4), 7), (1,))
        self.assertEqual(mod_shared((-1, 0, 1), (1, 2, 1), 199), (1, 1))
        self.assertEqual(mod_shared((1, 0, 1), (1, 1), 2), (1, 1))

    def test_shared_against_all_divisors(self):
        for p in (2, 3):
            rows = [brought(row, p) for row in itertools.product(range(p), repeat=4)]
            monic = [row for row in rows if row and row[-1] == 1]
            for a in rows:
                for b in rows[:: 5 if p == 3 else 1]:
                    if a == () and b == ():
                        continue
                    both = [g for g in monic if mod_parted(a, g, p)[1] == () == mod_parted(b, g, p)[1]]
                    self.assertEqual(mod_shared(a, b, p), max(both, key=len), (a, b))

    def test_shared_of_great_ones(self):
        source = maker(1010)
        for p in (2, 5, 199):
            for time in range(60):
                a, b, k = some(source, p)[:9], some(source, p)[:9], some(source, p)[:9] + (1,)
                told = mod_shared(mod_times(a, k, p), mod_times(b, k, p), p)
                if brought(a, p) == () and brought(b, p) == ():
                    self.assertEqual(told, ())
                    continue
                self.assertEqual(told[-1], 1)
                self.assertEqual(mod_parted(told, k, p)[1], ())
                first = mod_parted(mod_times(a, k, p), told, p)
                second = mod_parted(mod_times(b, k, p), told, p)
                self.assertEqual((first[1], second[1]), ((), ()))
                self.assertEqual(mod_shared(first[0], second[0], p), (1,))
