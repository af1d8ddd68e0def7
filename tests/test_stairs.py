"""Point 21."""

import itertools
import unittest

from ringhouse.stairs import is_stair, rest, stair
from tests.helper import brute_holds, brute_stair, maker, norm_of, one_table, rests_by

GREAT = 10 ** 100 - 1


def is_stair_form(table, k):
    """Whether a table is a stair table, by the words of the point."""
    if len(table) != k or any(len(row) != k for row in table):
        return False
    for i, j in itertools.product(range(k), repeat=2):
        place = table[i][j]
        fits = place >= 1 if j == i else place == 0 if j > i else 0 <= place < table[j][j]
        if not fits:
            return False
    return True


def all_sums(k, m, rows):
    """All sums of the rows, their places brought to the rests by m."""
    found = {(0,) * k}
    todo = list(found)
    while todo:
        base = todo.pop()
        for row in rows:
            one = tuple((c + d) % m for c, d in zip(base, row))
            if one not in found:
                found.add(one)
                todo.append(one)
    return found


def some_rows(source, k, many, reach):
    return [tuple(source.randint(-reach, reach) for i in range(k)) for row in range(many)]


class Point21(unittest.TestCase):
    def check(self, k, m, rows):
        before = list(rows)
        table = stair(k, m, rows)
        self.assertEqual(rows, before)
        self.assertIs(table.__class__, tuple)
        self.assertTrue(all(row.__class__ is tuple for row in table))
        self.assertTrue(is_stair_form(table, k), (k, m, rows))
        self.assertEqual(table, brute_stair(k, m, rows))
        return table

    def test_small_ones_against_all_sums(self):
        source = maker(21)
        for time in range(200):
            k = source.randint(1, 3)
            m = source.randint(1, 7)
            rows = some_rows(source, k, source.randint(0, 3), 9)
            table = self.check(k, m, rows)
            due = all_sums(k, m, rows)
            self.assertEqual(all_sums(k, m, table), due)
            # As m times each row of one 1 is a sum, sums are told by their rests by m.
            for x in itertools.product(range(m), repeat=k):
                self.assertEqual(not any(rest(table, x)), x in due)

    def test_each_number_of_rows(self):
        source = maker(211)
        for k in range(1, 9):
            for time in range(12):
                reach = source.choice((1, 5, 1000, GREAT))
                m = source.choice((1, 2, 12, 997, 2 ** 40, GREAT))
                self.check(k, m, some_rows(source, k, source.randint(0, 5), reach))

    def test_known_ones(self):
        self.assertEqual(stair(1, 12, [(8,)]), ((4,),))
        self.assertEqual(stair(1, 12, [(-9,), (0,)]), ((3,),))
        self.assertEqual(stair(2, 6, [(4, 2)]), ((6, 0), (4, 2)))
        self.assertEqual(stair(2, 5, [(2, 1)]), ((5, 0), (2, 1)))
        self.assertEqual(stair(2, 5, [(2, -1)]), ((5, 0), (3, 1)))
        self.assertEqual(stair(3, 4, [(1, 1, 1)]), ((4, 0, 0), (0, 4, 0), (1, 1, 1)))
        self.assertEqual(stair(2, 4, [(2, 2), (0, 2)]), ((2, 0), (0, 2)))

    def test_no_rows(self):
        for k in range(1, 9):
            for m in (1, 2, 30, GREAT):
                self.assertEqual(stair(k, m, []), one_table(k, m))
                self.assertEqual(stair(k, m, [(0,) * k]), one_table(k, m))
                self.assertEqual(stair(k, m, [(0,) * k, (m,) * k, (-3 * m,) * k]), one_table(k, m))

    def test_m_is_one(self):
        source = maker(212)
        for k in range(1, 9):
            self.assertEqual(stair(k, 1, some_rows(source, k, 3, GREAT)), one_table(k))

    def test_other_rows_with_the_same_sums(self):
        source = maker(213)
        for k in range(1, 9):
            m = source.choice((6, 60, 1001, 10 ** 30))
            rows = some_rows(source, k, 3, source.choice((9, 10 ** 20)))
            table = stair(k, m, rows)
            self.assertEqual(stair(k, m, rows[::-1]), table)
            self.assertEqual(stair(k, m, rows + rows), table)
            more = tuple(2 * a - 3 * b + 5 * c for a, b, c in zip(*rows))
            self.assertEqual(stair(k, m, [more] + rows), table)
            self.assertEqual(stair(k, m, [tuple(-c for c in row) for row in rows]), table)
            self.assertEqual(stair(k, m, list(table)), table)
            self.assertEqual(stair(k, m, rows), table)

    def test_the_rest(self):
        source = maker(214)
        for k in range(1, 9):
            for time in range(10):
                table = stair(k, source.choice((2, 30, 10 ** 9)), some_rows(source, k, 2, 50))
                row = some_rows(source, k, 1, source.choice((3, 100, GREAT)))[0]
                left = rest(table, row)
                self.assertIs(left.__class__, tuple)
                self.assertEqual(len(left), k)
                self.assertTrue(all(0 <= c < table[j][j] for j, c in enumerate(left)))
                self.assertTrue(brute_holds(table, tuple(c - d for c, d in zip(row, left))))
                self.assertEqual(rest(table, left), left)

    def test_the_rest_of_sums(self):
        source = maker(215)
        for k in range(1, 9):
            table = stair(k, 60, some_rows(source, k, 2, 50))
            for time in range(10):
                many = [source.randint(-10 ** 20, 10 ** 20) for row in table]
                total = tuple(sum(t * row[j] for t, row in zip(many, table)) for j in range(k))
                self.assertEqual(rest(table, total), (0,) * k)

    def test_so_many_rests(self):
        table = stair(3, 6, [(2, 3, 1), (3, 0, 2)])
        rests = rests_by(table)
        self.assertEqual(len(rests), norm_of(table))
        for row in rests:
            self.assertEqual(rest(table, row), row)
            moved = tuple(c - 2 * a + 5 * b - 7 * d for c, a, b, d in zip(row, *table))
            self.assertEqual(rest(table, moved), row)

    def test_places_below_nought(self):
        self.assertEqual(rest(((5, 0), (2, 1)), (0, -1)), (2, 0))
        self.assertEqual(rest(((5, 0), (2, 1)), (-1, 0)), (4, 0))
        self.assertEqual(rest(((4,),), (-9,)), (3,))
        self.assertEqual(rest(((4, 0), (0, 4)), (-4, -4)), (0, 0))

    def test_tables_with_great_places(self):
        source = maker(216)
        for k in (1, 2, 4, 8):
            m = source.randrange(10 ** 499, 10 ** 500)
            rows = some_rows(source, k, 2, 10 ** 500)
            table = self.check(k, m, rows)
            row = some_rows(source, k, 1, GREAT)[0]
            left = rest(table, row)
            self.assertTrue(brute_holds(table, tuple(c - d for c, d in zip(row, left))))
            self.assertTrue(all(0 <= c < table[j][j] for j, c in enumerate(left)))

    def test_stair_forms_are_known(self):
        source = maker(217)
        for time in range(2000):
            k = source.randint(1, 3)
            table = tuple(some_rows(source, k, k, 2))
            if source.random() < 0.5:
                table = tuple(row[:i + 1] + (0,) * (k - i - 1) for i, row in enumerate(table))
            self.assertEqual(is_stair(table, k), is_stair_form(table, k), table)
