"""Points 6 and 7."""

import math
import unittest

from ringhouse.whole import parted, root, shared, shared_by, small_primes, to_the
from tests.helper import maker


class Point6(unittest.TestCase):
    def test_shared_of_small_ones(self):
        for a in range(-40, 41):
            for b in range(-40, 41):
                self.assertEqual(shared(a, b), math.gcd(a, b), (a, b))

    def test_shared_with_nought(self):
        self.assertEqual(shared(0, 0), 0)
        self.assertEqual(shared(0, -7), 7)
        self.assertEqual(shared(-7, 0), 7)

    def test_shared_of_great_ones(self):
        source = maker(6)
        for time in range(200):
            k = source.randrange(1, 10 ** 40)
            a = k * source.randrange(-(10 ** 60), 10 ** 60)
            b = k * source.randrange(-(10 ** 60), 10 ** 60)
            self.assertEqual(shared(a, b), math.gcd(a, b))

    def test_shared_by(self):
        source = maker(61)
        pairs = [(a, b) for a in range(1, 30) for b in range(-30, 31)]
        pairs += [(source.randrange(1, 10 ** 80), source.randrange(-(10 ** 80), 10 ** 80)) for time in range(50)]
        for a, b in pairs:
            g, s, t = shared_by(a, b)
            self.assertEqual(g, math.gcd(a, b))
            self.assertEqual(s * a + t * b, g)
            if b % a == 0:
                self.assertEqual((s, t), (1, 0))

    def test_to_the(self):
        for base in range(-3, 5):
            for k in range(6):
                self.assertEqual(to_the(base, k), base ** k)

    def test_root_of_small_ones(self):
        for m in range(3000):
            self.assertEqual(root(m), math.isqrt(m), m)

    def test_root_about_squares(self):
        source = maker(66)
        ones = list(range(2, 300)) + [source.randrange(10 ** 48, 10 ** 50) for time in range(100)]
        for k in ones:
            self.assertEqual(root(k * k - 1), k - 1)
            self.assertEqual(root(k * k), k)
            self.assertEqual(root(k * k + 1), k)

    def test_root_of_a_hundred_figures(self):
        for m in (10 ** 99, 10 ** 100 - 1, 3 * 10 ** 99 + 7):
            self.assertEqual(root(m), math.isqrt(m))


class Point7(unittest.TestCase):
    def test_all_small_primes(self):
        by_trial = [p for p in range(2, 200) if all(p % d != 0 for d in range(2, p))]
        self.assertEqual(small_primes(), by_trial)
        self.assertEqual(len(small_primes()), 46)

    def test_parted_one(self):
        self.assertEqual(parted(1), ([], 1))

    def test_parted_small_ones(self):
        for m in range(1, 3000):
            rows, rest = parted(m)
            made = rest
            for p, often in rows:
                made *= p ** often
                self.assertEqual(m % p ** often, 0)
                self.assertNotEqual(m % p ** (often + 1), 0)
            self.assertEqual(made, m)
            self.assertEqual([p for p, often in rows], [p for p in small_primes() if m % p == 0])

    def test_parted_with_a_rest(self):
        self.assertEqual(parted(211), ([], 211))
        self.assertEqual(parted(211 * 223), ([], 211 * 223))
        self.assertEqual(parted(2 ** 5 * 199 ** 2 * 211 ** 3), ([(2, 5), (199, 2)], 211 ** 3))

    def test_parted_great_ones(self):
        self.assertEqual(parted(2 ** 1660), ([(2, 1660)], 1))
        self.assertEqual(parted(199 ** 200 * 3 ** 70), ([(3, 70), (199, 200)], 1))
        self.assertEqual(parted(10 ** 499), ([(2, 499), (5, 499)], 1))
        rest = 211 ** 150
        self.assertEqual(parted(rest * 7 ** 100), ([(7, 100)], rest))
        every = math.prod(small_primes())
        self.assertEqual(parted(every), ([(p, 1) for p in small_primes()], 1))


class Point2(unittest.TestCase):
    def test_kinds(self):
        told = parted(12)
        self.assertIs(told.__class__, tuple)
        self.assertIs(told[0].__class__, list)
        self.assertIs(told[0][0].__class__, tuple)
        self.assertIs(small_primes().__class__, list)

    def test_told_lists_are_the_askers_own(self):
        held = small_primes()
        other = small_primes()
        held.clear()
        self.assertEqual(len(other), 46)
        self.assertEqual(len(small_primes()), 46)
        self.assertEqual(parted(6), ([(2, 1), (3, 1)], 1))
        rows = parted(6)[0]
        rows.append((5, 5))
        self.assertEqual(parted(6), ([(2, 1), (3, 1)], 1))
        parted(1)[0].append((2, 2))
        self.assertEqual(parted(1), ([], 1))
