"""Point 8."""

import unittest

from ringhouse.tables import det
from tests.helper import brute_det, maker


class Point8(unittest.TestCase):
    def test_one_place(self):
        for c in (0, 5, -5, 10 ** 499):
            self.assertEqual(det(((c,),)), c)

    def test_written_ones(self):
        self.assertEqual(det(((1, 2), (3, 4))), -2)
        self.assertEqual(det(((0, 1), (1, 0))), -1)
        self.assertEqual(det(((0, 1, 0), (0, 0, 1), (1, 0, 0))), 1)
        self.assertEqual(det(((0, 0, 0, 1), (1, 0, 0, 0), (0, 1, 0, 0), (0, 0, 1, 0))), -1)
        self.assertEqual(det(((2, 0, 0), (7, 3, 0), (9, 8, 5))), 30)

    def test_tables_of_any_size(self):
        source = maker(8)
        for k in (1, 2, 3, 4):
            for reach in (1, 2, 9, 10 ** 100):
                for time in range(60):
                    table = tuple(tuple(source.randint(-reach, reach) for j in range(k)) for i in range(k))
                    self.assertEqual(det(table), brute_det(table), table)

    def test_noughts_at_place_nought(self):
        self.assertEqual(det(((0, 1, 2), (0, 3, 4), (0, 5, 6))), 0)
        self.assertEqual(det(((0, 1, 2), (0, 3, 4), (2, 5, 6))), 2 * (1 * 4 - 2 * 3))
        self.assertEqual(det(((0, 1, 2), (3, 3, 4), (0, 5, 6))), -3 * (1 * 6 - 2 * 5))

    def test_rows_alike_and_multiples(self):
        source = maker(88)
        for k in (2, 3, 4):
            for many in (0, 1, -1, 7, -(10 ** 50)):
                rows = [tuple(source.randint(-99, 99) for j in range(k)) for i in range(k)]
                rows[k - 1] = tuple(many * c for c in rows[0])
                self.assertEqual(det(tuple(rows)), 0)

    def test_places_of_five_hundred_figures(self):
        great = 10 ** 500 - 1
        table = tuple(tuple(great if i == j else i - j for j in range(4)) for i in range(4))
        self.assertEqual(det(table), brute_det(table))
