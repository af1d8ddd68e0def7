"""Points 22 and 23, but for the meet."""

import unittest

from ringhouse.errors import Nought
from ringhouse.ideals import holds, inside, is_ideal, joined, made, size, whole_ring
from ringhouse.numbers import norm
from ringhouse.ring import Ring
from tests.helper import (
    RINGS, brute_holds, brute_ideals, brute_is_ideal, brute_made, brute_stair, brute_tables, brute_times, maker,
    norm_of, one_table, refused, rests_by, some_ideals, some_number, whole,
)

GREAT = 10 ** 100 - 1


def changed(table, i, j, place):
    """The table with another place j in row i."""
    rows = [list(row) for row in table]
    rows[i][j] = place
    return tuple(tuple(row) for row in rows)


class Point22(unittest.TestCase):
    def test_the_whole_ring(self):
        for poly in RINGS:
            ring = Ring(poly)
            self.assertEqual(whole_ring(ring), one_table(ring.degree))
            self.assertEqual(size(whole_ring(ring)), 1)
            self.assertTrue(is_ideal(ring, whole_ring(ring)))

    def test_made_of_one_number(self):
        source = maker(22)
        for poly in RINGS:
            ring = Ring(poly)
            for reach in (1, 3, 20, GREAT):
                x = some_number(source, ring.degree, reach)
                told = made(ring, [x])
                self.assertEqual(told, brute_made(poly, [x]))
                self.assertEqual(size(told), abs(norm(ring, x)))
                self.assertTrue(is_ideal(ring, told))
                self.assertEqual(made(ring, [tuple(-c for c in x)]), told)

    def test_made_of_several_numbers(self):
        source = maker(221)
        for poly in RINGS:
            ring = Ring(poly)
            n = ring.degree
            for time in range(6):
                reach = source.choice((3, 30, GREAT))
                numbers = [some_number(source, n, reach) for i in range(source.randint(2, 4))]
                if time % 2:
                    # So that they share something.
                    common = some_number(source, n, 3)
                    numbers = [brute_times(poly, x, common) for x in numbers]
                told = made(ring, numbers)
                self.assertEqual(told, brute_made(poly, numbers))
                self.assertTrue(all(holds(told, x) for x in numbers))
                self.assertEqual(made(ring, numbers[::-1]), told)
                self.assertEqual(made(ring, numbers + numbers), told)
                self.assertEqual(made(ring, list(told)), told)

    def test_made_is_the_least_one(self):
        source = maker(222)
        for poly in RINGS:
            ring = Ring(poly)
            ideals = some_ideals(poly)
            for time in range(10):
                numbers = [some_number(source, ring.degree, 4) for i in range(2)]
                told = made(ring, numbers)
                for other in ideals:
                    if all(brute_holds(other, x) for x in numbers):
                        self.assertTrue(inside(told, other))

    def test_nought_beside_others(self):
        for poly in RINGS:
            ring = Ring(poly)
            n = ring.degree
            nought = whole(n, 0)
            x = (2, 1) + (0,) * (n - 2)
            due = made(ring, [x])
            self.assertEqual(made(ring, [nought, x]), due)
            self.assertEqual(made(ring, [x, nought, nought]), due)

    def test_made_of_whole_numbers(self):
        for poly in RINGS:
            ring = Ring(poly)
            n = ring.degree
            for k in (1, 2, 6, 211, GREAT):
                self.assertEqual(made(ring, [whole(n, k)]), one_table(n, k))
                self.assertEqual(made(ring, [whole(n, -k)]), one_table(n, k))
            self.assertEqual(made(ring, [whole(n, 12), whole(n, -18)]), one_table(n, 6))
            self.assertEqual(made(ring, [whole(n, 4), whole(n, 9)]), one_table(n))

    def test_made_of_nought(self):
        for poly in RINGS:
            ring = Ring(poly)
            nought = whole(ring.degree, 0)
            for numbers in ([], [nought], [nought, nought]):
                self.assertIs(refused(made, ring, numbers).__class__, Nought)
            self.assertEqual(made(ring, [nought, whole(ring.degree, 1)]), whole_ring(ring))

    def test_known_ones(self):
        ring = Ring((5, 0, 1))
        self.assertEqual(made(ring, [(2, 0), (1, 1)]), ((2, 0), (1, 1)))
        self.assertEqual(made(ring, [(1, 1)]), ((6, 0), (1, 1)))
        self.assertEqual(made(ring, [(0, 1)]), ((5, 0), (0, 1)))
        self.assertEqual(made(ring, [(3, 0), (1, -1)]), ((3, 0), (2, 1)))
        self.assertEqual(made(Ring((-2, 0, 0, 1)), [(0, 1, 0)]), ((2, 0, 0), (0, 1, 0), (0, 0, 1)))

    def test_the_list_stays(self):
        ring = Ring((5, 0, 1))
        numbers = [(2, 0), (0, 0), (1, 1)]
        told = made(ring, numbers)
        self.assertEqual(numbers, [(2, 0), (0, 0), (1, 1)])
        numbers.append((1, 0))
        self.assertEqual(told, ((2, 0), (1, 1)))
        self.assertEqual(made(ring, numbers), whole_ring(ring))
        empty = []
        refused(made, ring, empty)
        self.assertEqual(empty, [])

    def test_is_ideal_of_all_small_tables(self):
        for poly in RINGS:
            ring = Ring(poly)
            for m in range(1, 13 if ring.degree < 4 else 6):
                for table in brute_tables(ring.degree, m):
                    self.assertEqual(is_ideal(ring, table), brute_is_ideal(poly, table), (poly, table))

    def test_some_sums_that_do_not_hold_t(self):
        ring = Ring((5, 0, 1))
        self.assertFalse(is_ideal(ring, ((2, 0), (0, 1))))
        self.assertFalse(is_ideal(ring, ((1, 0), (0, 2))))
        self.assertTrue(is_ideal(ring, ((5, 0), (0, 1))))
        self.assertFalse(is_ideal(ring, ((5, 0), (1, 1))))
        cubic = Ring((-2, 0, 0, 1))
        self.assertTrue(is_ideal(cubic, ((2, 0, 0), (0, 2, 0), (0, 0, 1))))
        self.assertFalse(is_ideal(cubic, ((1, 0, 0), (0, 1, 0), (0, 0, 2))))
        self.assertFalse(is_ideal(cubic, ((2, 0, 0), (0, 1, 0), (0, 0, 2))))

    def test_tables_of_other_forms(self):
        for poly in RINGS:
            ring = Ring(poly)
            n = ring.degree
            good = one_table(n, 6)
            for table in (
                (), ((),), ((), ()), ((1,),), good[:-1], good[1:], good + (good[-1],), good + ((),), ((),) * n,
                tuple(row[:-1] for row in good), tuple(row + (0,) for row in good), good[:-1] + (good[-1][:-1],),
                (good[0] + (0,),) + good[1:], good[:-1] + ((),), ((),) + good[1:], one_table(n - 1), one_table(n + 1),
                ((6,),) * n, (good[0][:1],) + good[1:],
            ):
                self.assertIs(is_ideal(ring, table), False, table)
            self.assertIs(is_ideal(ring, good), True)

    def test_tables_that_are_no_stair_tables(self):
        for poly in RINGS:
            ring = Ring(poly)
            n = ring.degree
            good = one_table(n, 6)
            for i in range(n):
                for corner in (0, -6, -1):
                    self.assertIs(is_ideal(ring, changed(good, i, i, corner)), False)
                for j in range(n):
                    if j != i:
                        # With these the sums stay the same: only the form is wrong.
                        self.assertIs(is_ideal(ring, changed(good, i, j, 6)), False)
                        self.assertIs(is_ideal(ring, changed(good, i, j, -6)), False)
                    if j > i:
                        self.assertIs(is_ideal(ring, changed(one_table(n), i, j, 1)), False)
            self.assertIs(is_ideal(ring, good[::-1]), False)
        ring = Ring((5, 0, 1))
        self.assertIs(is_ideal(ring, ((2, 0), (1, 1))), True)
        self.assertIs(is_ideal(ring, ((2, 0), (3, 1))), False)
        self.assertIs(is_ideal(ring, ((2, 0), (-1, 1))), False)
        self.assertIs(is_ideal(ring, ((2, 0), (2, 2))), False)
        self.assertIs(is_ideal(ring, ((-2, 0), (1, 1))), False)

    def test_is_ideal_of_great_tables(self):
        source = maker(223)
        for poly in RINGS:
            ring = Ring(poly)
            n = ring.degree
            k = source.randrange(10 ** 499 // 2, 10 ** 499)
            great = one_table(n, k)
            self.assertTrue(is_ideal(ring, great))
            self.assertFalse(is_ideal(ring, changed(great, 0, 0, k + 1)))
            self.assertEqual(size(great), k ** n)
            x = some_number(source, n, 10 ** (480 // n))
            told = made(ring, [x])
            self.assertEqual(size(told), abs(norm(ring, x)))
            self.assertGreater(size(told), 10 ** 400)
            self.assertTrue(is_ideal(ring, told))

    def test_holds(self):
        source = maker(224)
        for poly in RINGS:
            ring = Ring(poly)
            n = ring.degree
            for table in some_ideals(poly):
                self.assertTrue(holds(table, whole(n, 0)))
                self.assertTrue(holds(table, whole(n, norm_of(table))))
                self.assertEqual(holds(table, whole(n, 1)), norm_of(table) == 1)
                for time in range(6):
                    x = some_number(source, n, source.choice((3, 50, GREAT)))
                    self.assertIs(holds(table, x), brute_holds(table, x))
                for row in table:
                    y = brute_times(poly, row, some_number(source, n, GREAT))
                    self.assertIs(holds(table, y), True)
                    self.assertIs(holds(table, (y[0] + 1,) + y[1:]), norm_of(table) == 1)

    def test_inside(self):
        for poly in RINGS:
            ring = Ring(poly)
            ideals = some_ideals(poly, 12 if ring.degree < 4 else 9)
            for one in ideals:
                for other in ideals:
                    due = all(brute_holds(other, row) for row in one)
                    self.assertIs(inside(one, other), due)
                self.assertTrue(inside(one, one))
                self.assertTrue(inside(one, whole_ring(ring)))
                self.assertEqual(inside(whole_ring(ring), one), norm_of(one) == 1)

    def test_size_counts_the_rests(self):
        for poly in RINGS:
            for table in some_ideals(poly):
                self.assertEqual(size(table), len(rests_by(table)))

    def test_two_rings_by_turns(self):
        one, other = Ring((5, 0, 1)), Ring((-10, 0, 1))
        for time in range(3):
            self.assertEqual(made(one, [(0, 1)]), ((5, 0), (0, 1)))
            self.assertEqual(made(other, [(0, 1)]), ((10, 0), (0, 1)))
            self.assertTrue(is_ideal(one, ((2, 0), (1, 1))))
            self.assertFalse(is_ideal(other, ((2, 0), (1, 1))))
            self.assertFalse(is_ideal(one, ((2, 0), (0, 1))))
            self.assertTrue(is_ideal(other, ((2, 0), (0, 1))))


class Point23(unittest.TestCase):
    def test_joined(self):
        for poly in RINGS:
            ring = Ring(poly)
            n = ring.degree
            ideals = some_ideals(poly, 12 if n < 4 else 9)
            for one in ideals:
                for other in ideals:
                    told = joined(one, other)
                    due = brute_stair(n, one[0][0], one + other)
                    self.assertEqual(told, due)
                    self.assertEqual(joined(other, one), told)
                    if inside(one, other):
                        self.assertEqual(told, other)
                    for third in brute_ideals(poly, 2) + brute_ideals(poly, 3):
                        if inside(one, third) and inside(other, third):
                            self.assertTrue(inside(told, third))
                self.assertEqual(joined(one, one), one)
                self.assertEqual(joined(one, whole_ring(ring)), whole_ring(ring))

    def test_joined_of_great_ones(self):
        source = maker(23)
        for poly in RINGS:
            ring = Ring(poly)
            n = ring.degree
            reach = 10 ** (220 // n)
            common = some_number(source, n, reach)
            x, y = (some_number(source, n, reach) for i in range(2))
            one, other = (made(ring, [brute_times(poly, z, common)]) for z in (x, y))
            told = joined(one, other)
            self.assertEqual(told, made(ring, [brute_times(poly, z, common) for z in (x, y)]))
            self.assertTrue(inside(one, told) and inside(other, told))
            self.assertTrue(inside(told, made(ring, [common])))
            self.assertTrue(is_ideal(ring, told))
