"""Point 14."""

import itertools
import unittest

from ringhouse.measure import measure
from tests.helper import brute_det, brute_product, maker


def by_sylvester(poly):
    """The measure by the table of poly and what comes of it when it is differentiated."""
    n = len(poly) - 1
    high = poly[::-1]
    steep = tuple((n - i) * high[i] for i in range(n))
    rows = [(0,) * i + high + (0,) * (n - 2 - i) for i in range(n - 1)]
    rows += [(0,) * i + steep + (0,) * (n - 1 - i) for i in range(n)]
    return brute_det(rows) * (-1) ** (n * (n - 1) // 2)


class Point14(unittest.TestCase):
    def test_degree_two(self):
        for b in (-499, -7, -1, 0, 1, 2, 499):
            for c in (-499, -3, 0, 1, 4, 499):
                self.assertEqual(measure((c, b, 1)), b * b - 4 * c)

    def test_degree_three(self):
        for a, b, c in itertools.product((-499, -2, 0, 1, 3, 499), repeat=3):
            due = a * a * b * b - 4 * b ** 3 - 4 * a ** 3 * c + 18 * a * b * c - 27 * c * c
            self.assertEqual(measure((c, b, a, 1)), due)

    def test_degree_four(self):
        source = maker(14)
        rows = list(itertools.product((-499, 499), repeat=4))[::3] + [(0, 0, 0, 0), (1, 1, 1, 1)]
        for time in range(12):
            reach = source.choice((3, 499))
            rows.append(tuple(source.randint(-reach, reach) for i in range(4)))
        for row in rows:
            self.assertEqual(measure(row + (1,)), by_sylvester(row + (1,)), row)

    def test_written_ones(self):
        self.assertEqual(measure((1, 0, 0, 0, 1)), 256)
        self.assertEqual(measure((1, 1, 1, 1, 1)), 125)
        self.assertEqual(measure((-1, -2, 1, 1)), 49)
        self.assertEqual(measure((-2, 0, 0, 1)), -108)
        self.assertEqual(measure((1, 0, 1)), -4)

    def test_whole_roots(self):
        for many in (2, 3, 4):
            for roots in itertools.product((-3, -1, 0, 2, 4), repeat=many):
                poly = (1,)
                due = 1
                for r in roots:
                    poly = brute_product(poly, (-r, 1))
                for r, s in itertools.combinations(roots, 2):
                    due *= (r - s) ** 2
                self.assertEqual(measure(poly), due)

    def test_roots_alike(self):
        for poly in ((0, 0, 1), (1, 2, 1), (0, 0, 0, 1), (-2, -3, 0, 1), (1, 0, 2, 0, 1), (0, 0, 1, 1, 1)):
            self.assertEqual(measure(poly), 0)
