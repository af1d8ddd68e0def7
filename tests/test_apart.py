"""Points 12 and 13."""

import itertools
import unittest

from ringhouse.apart import apart
from ringhouse.errors import NoPolynomial
from ringhouse.measure import measure
from ringhouse.ring import Ring
from ringhouse.split import stays
from ringhouse.whole import small_primes
from tests.helper import brute_product, maker, refused


class Point12(unittest.TestCase):
    def test_other_rows_are_refused(self):
        rows = [
            (), (1,), (0,), (0, 1), (5, 1), (1, 1, 1, 1, 1, 1), (0, 0, 0, 0, 0, 1), (0,) * 40 + (1,),
            (1, 0, 0), (1, 0, 2), (1, 0, -1), (1, 0, 0, 3), (1, 0, 0, 0, -1), (1, 1, 0), (0, 0, 0, 0, 0),
            (10 ** 100, 0, 1), (1, -(10 ** 100), 0, 1), (1, 0, 10 ** 100),
        ]
        for degree in (2, 3, 4):
            for at in range(degree):
                for c in (500, -500):
                    rows.append(tuple(c if i == at else 1 for i in range(degree)) + (1,))
        for row in rows:
            for call in (apart, measure, Ring):
                self.assertIs(refused(call, row).__class__, NoPolynomial, (call, row))

    def test_ahead_of_all_else(self):
        for row in ((0, 500, 1), (-250000, 0, 1), (0, 0, 2), (3, 0, 0)):
            for call in (apart, measure, Ring):
                self.assertIs(refused(call, row).__class__, NoPolynomial)

    def test_places_within_are_taken(self):
        for degree in (2, 3, 4):
            for at in range(degree):
                for c in (499, -499):
                    row = tuple(c if i == at else 1 for i in range(degree)) + (1,)
                    self.assertIsNone(refused(apart, row))
                    self.assertIsNone(refused(measure, row))
                    refusal = refused(Ring, row)
                    self.assertIsNot(refusal.__class__, NoPolynomial)


def fits(row):
    return len(row) in (3, 4, 5) and all(abs(c) <= 499 for c in row)


class Point13(unittest.TestCase):
    def check_product(self, poly):
        told = apart(poly)
        self.assertIs(told.__class__, tuple, poly)
        left, right = told
        for row in told:
            self.assertIs(row.__class__, tuple)
            self.assertGreaterEqual(len(row), 2)
            self.assertEqual(row[-1], 1)
        self.assertEqual(brute_product(left, right), poly)

    def test_small_ones_against_all_products(self):
        reach = {2: 6, 3: 3, 4: 2}
        for degree in (2, 3, 4):
            falling = set()
            # The factors' places are bounded by those that the products' roots can have.
            bound = {2: 7, 3: 12, 4: 14}[degree]
            lines = [(c, 1) for c in range(-bound, bound + 1)]
            for line in lines:
                for rest in itertools.product(range(-bound, bound + 1), repeat=degree - 1):
                    if abs(line[0] * rest[0]) <= reach[degree]:
                        falling.add(brute_product(line, rest + (1,)))
            if degree == 4:
                squares = [row + (1,) for row in itertools.product(range(-7, 8), repeat=2)]
                for f, g in itertools.combinations_with_replacement(squares, 2):
                    falling.add(brute_product(f, g))
            for row in itertools.product(range(-reach[degree], reach[degree] + 1), repeat=degree):
                if row + (1,) in falling:
                    self.check_product(row + (1,))
                else:
                    self.assertIsNone(apart(row + (1,)), row)

    def test_products_of_all_degrees(self):
        source = maker(13)
        for a, b in ((1, 1), (1, 2), (1, 3), (2, 2)):
            done = 0
            while done < 300:
                reach = source.choice((1, 3, 9, 22, 60, 499))
                left = tuple(source.randint(-reach, reach) for i in range(a)) + (1,)
                right = tuple(source.randint(-reach, reach) // source.choice((1, 1, 9)) for i in range(b)) + (1,)
                poly = brute_product(left, right)
                if fits(poly):
                    self.check_product(poly)
                    done += 1

    def test_alike_factors(self):
        for g in ((0, 1), (3, 1), (-22, 1)):
            self.check_product(brute_product(g, g))
        for g in ((0, 1), (3, 1), (-2, 1)):
            self.check_product(brute_product(g, brute_product(g, g)))
            self.check_product(brute_product(brute_product(g, g), brute_product(g, g)))
        for g in ((1, 0, 1), (3, -1, 1), (-22, 0, 1), (22, 1, 1), (7, 9, 1), (0, 0, 1)):
            self.check_product(brute_product(g, g))

    def test_great_places(self):
        for pair in (
            ((499, 1), (-1, 1)), ((-499, 1), (0, 1)), ((499, 1), (1, 0, 1)), ((-498, 1), (1, -1, 1)),
            ((499, 1), (0, 1, 0, 1)), ((498, 1), (1, 1, 0, 1)), ((497, 0, 1), (1, 1, 1)),
            ((-1, 499, 1), (1, 0, 1)), ((1, 499, 1), (1, 0, 1)), ((-1, 22, 1), (-1, -22, 1)),
            ((499, 0, 1), (-1, 0, 1)), ((2, 165, 1), (-2, -3, 1)), ((-400, 0, 1), (1, 0, 1)),
            ((400, -20, 1), (1, 0, 1)),
        ):
            poly = brute_product(*pair)
            self.assertTrue(fits(poly), pair)
            self.check_product(poly)

    def test_none_though_it_falls_apart_modulo_every_prime(self):
        for poly in ((1, 0, 0, 0, 1), (1, 0, -10, 0, 1), (9, 0, -2, 0, 1), (1, 0, -4, 0, 1)):
            self.assertIsNone(apart(poly), poly)
            self.assertFalse(any(stays(poly, p) for p in small_primes()))

    def test_none(self):
        for poly in ((1, 0, 1), (499, 499, 1), (-2, 0, 0, 1), (1, -1, 0, 1), (1, 1, 1, 1, 1), (-499, 0, 0, 0, 1)):
            self.assertIsNone(apart(poly))

    def test_none_where_it_stays_modulo_a_prime(self):
        source = maker(1313)
        done = 0
        while done < 300:
            degree = source.choice((2, 3, 4))
            poly = tuple(source.randint(-499, 499) for i in range(degree)) + (1,)
            if any(stays(poly, p) for p in (2, 3, 5, 7)):
                self.assertIsNone(apart(poly))
                done += 1
