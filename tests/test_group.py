"""Point 45."""

import itertools
import math
import unittest

from ringhouse.group import diagonal
from tests.helper import brute_det, brute_in_sums, maker, one_table


def brute_diagonal(rows, k):
    """The diagonal by what all determinants of j rows and j places share, j from 1 to k."""
    shares = [1]
    for j in range(1, k + 1):
        found = 0
        for high in itertools.combinations(rows, j):
            for wide in itertools.combinations(range(k), j):
                found = math.gcd(found, brute_det([[row[at] for at in wide] for row in high]))
        shares.append(found)
    return [0 if after == 0 else after // ahead for ahead, after in zip(shares, shares[1:])]


def table_times(one, other):
    return tuple(
        tuple(sum(row[j] * other[j][l] for j in range(len(other))) for l in range(len(other))) for row in one
    )


def told_as_sum(told, row):
    """Whether a row is told as a sum by diagonal and turn."""
    corners, turn, back = told
    for j, d in enumerate(corners):
        c = sum(v * line[j] for v, line in zip(row, turn))
        if (c != 0) if d == 0 else (c % d != 0):
            return False
    return True


class Point45(unittest.TestCase):
    def check_told(self, rows, k):
        kept = list(rows)
        told = diagonal(rows, k)
        self.assertEqual(rows, kept)
        self.assertIs(told.__class__, tuple)
        corners, turn, back = told
        self.assertIs(corners.__class__, list)
        self.assertEqual(len(corners), k)
        for table in (turn, back):
            self.assertIs(table.__class__, tuple)
            self.assertTrue(all(row.__class__ is tuple and len(row) == k for row in table))
            self.assertEqual(len(table), k)
        self.assertEqual(table_times(turn, back), one_table(k))
        self.assertEqual(table_times(back, turn), one_table(k))
        for one, other in zip(corners, corners[1:]):
            self.assertTrue(other == 0 if one == 0 else other % one == 0, corners)
        self.assertTrue(all(d >= 0 for d in corners))
        return told

    def check_sums(self, source, told, rows, k, reach):
        for time in range(6):
            total = [0] * k
            for row in rows:
                many = source.randint(-reach, reach)
                total = [c + many * d for c, d in zip(total, row)]
            self.assertTrue(told_as_sum(told, tuple(total)))
            # One place changed: most often none any more.
            total[source.randrange(k)] += source.choice((1, -1, 2, 5))
            self.assertEqual(told_as_sum(told, tuple(total)), brute_in_sums(rows, total))
            low = tuple(source.randint(-4, 4) for j in range(k))
            self.assertEqual(told_as_sum(told, low), brute_in_sums(rows, low))

    def test_no_rows(self):
        for k in range(1, 7):
            told = self.check_told([], k)
            self.assertEqual(told[0], [0] * k)
            self.assertTrue(told_as_sum(told, (0,) * k))
            self.assertFalse(told_as_sum(told, (0,) * (k - 1) + (1,)))

    def test_rows_of_noughts(self):
        for k in range(1, 7):
            for many in (1, 3, 8):
                self.assertEqual(self.check_told([(0,) * k] * many, k)[0], [0] * k)
                rows = [(0,) * k] * many + [(0,) * (k - 1) + (-6,)] + [(0,) * k]
                self.assertEqual(self.check_told(rows, k)[0], [6] + [0] * (k - 1))

    def test_known_ones(self):
        for rows, k, due in (
            ([(1,)], 1, [1]), ([(-7,)], 1, [7]), ([(4,), (6,)], 1, [2]), ([(2, 0), (0, 3)], 2, [1, 6]),
            ([(4, 0), (0, 6)], 2, [2, 12]), ([(2, 4), (6, 8)], 2, [2, 4]), ([(0, 5)], 2, [5, 0]),
            ([(2, 4, 4), (-6, 6, 12), (10, -4, -16)], 3, [2, 6, 12]), ([(1, 1), (1, 1)], 2, [1, 0]),
            ([(6, 0, 0), (0, 10, 0), (0, 0, 15)], 3, [1, 30, 30]), ([(3, 3), (3, 3), (0, 9)], 2, [3, 9]),
        ):
            self.assertEqual(self.check_told(rows, k)[0], due)

    def test_small_places_against_determinants(self):
        source = maker(45)
        for k in range(1, 5):
            for many in range(0, 6):
                for reach in (1, 2, 12):
                    rows = [tuple(source.randint(-reach, reach) for j in range(k)) for i in range(many)]
                    told = self.check_told(rows, k)
                    self.assertEqual(told[0], brute_diagonal(rows, k))
                    self.check_sums(source, told, rows, k, 3)

    def test_six_places_of_six_figures(self):
        source = maker(451)
        for k in range(1, 7):
            for many in (1, 2, k, 8):
                rows = [tuple(source.randint(-999999, 999999) for j in range(k)) for i in range(many)]
                told = self.check_told(rows, k)
                if many <= 2 or k == many <= 4:
                    self.assertEqual(told[0], brute_diagonal(rows, k))
                self.check_sums(source, told, rows, k, 10 ** 6)

    def test_rows_that_hang_together(self):
        source = maker(452)
        for k in range(2, 7):
            base = [tuple(source.randint(-30, 30) for j in range(k)) for i in range(k - 1)]
            rows = []
            for i in range(8):
                many = [source.randint(-50, 50) for row in base]
                rows.append(tuple(sum(m * row[j] for m, row in zip(many, base)) for j in range(k)))
            told = self.check_told(rows, k)
            self.assertEqual(told[0][-1], 0)
            self.check_sums(source, told, rows, k, 9)

    def test_what_all_places_share(self):
        source = maker(453)
        for k in range(1, 7):
            rows = [tuple(12 * source.randint(-9, 9) for j in range(k)) for i in range(7)]
            told = self.check_told(rows, k)
            self.assertTrue(all(d % 12 == 0 for d in told[0]))
            self.check_sums(source, told, rows, k, 9)

    def test_lists_are_the_askers(self):
        rows = [(2, 4), (6, 8)]
        told = diagonal(rows, 2)
        told[0].append(9)
        told[0][0] = 77
        rows.append((1, 1))
        self.assertEqual(diagonal([(2, 4), (6, 8)], 2)[0], [2, 4])
        self.assertEqual(told[0], [77, 4, 9])
