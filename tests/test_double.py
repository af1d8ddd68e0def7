"""Point 23's meet, points 24 and 25."""

import itertools
import unittest

from ringhouse.double import both, inverse, meet
from ringhouse.errors import NotApart
from ringhouse.ideals import holds, inside, is_ideal, joined, made, size, whole_ring
from ringhouse.numbers import less, times
from ringhouse.ring import Ring
from tests.helper import (
    RINGS, brute_holds, brute_stair, brute_times, maker, norm_of, one_table, refused, rests_by, some_ideals,
    some_number, whole,
)

GREAT = 10 ** 100 - 1


def is_rest(table, x):
    return len(x) == len(table) and all(0 <= c < table[i][i] for i, c in enumerate(x))


def great_ideal(ring, source, figures):
    """An ideal made by one number, of a norm of about so many figures."""
    return made(ring, [some_number(source, ring.degree, 10 ** (figures // ring.degree))])


class Point23(unittest.TestCase):
    def test_meet(self):
        for poly in RINGS:
            ring = Ring(poly)
            ideals = some_ideals(poly, 12 if ring.degree < 4 else 9)
            for one, other in itertools.product(ideals, repeat=2):
                told = meet(one, other)
                self.assertIs(told.__class__, tuple)
                self.assertTrue(is_ideal(ring, told))
                self.assertTrue(inside(told, one) and inside(told, other))
                # Of those inside both it is the whole meet just where the norms multiply so.
                self.assertEqual(size(told) * size(joined(one, other)), size(one) * size(other))
                self.assertEqual(meet(other, one), told)
                if inside(one, other):
                    self.assertEqual(told, one)

    def test_meet_against_all_numbers(self):
        for poly in RINGS:
            ideals = some_ideals(poly, 5)
            for one, other in itertools.product(ideals, repeat=2):
                told = meet(one, other)
                for x in itertools.product(range(-2, 3), repeat=len(poly) - 1):
                    self.assertEqual(brute_holds(told, x), brute_holds(one, x) and brute_holds(other, x))

    def test_with_itself_and_with_the_whole_ring(self):
        for poly in RINGS:
            ring = Ring(poly)
            for one in some_ideals(poly):
                self.assertEqual(meet(one, one), one)
                self.assertEqual(meet(one, whole_ring(ring)), one)
                self.assertEqual(meet(whole_ring(ring), one), one)

    def test_known_ones(self):
        self.assertEqual(meet(((2, 0), (1, 1)), ((3, 0), (1, 1))), ((6, 0), (1, 1)))
        self.assertEqual(meet(one_table(3, 4), one_table(3, 6)), one_table(3, 12))

    def test_great_ones(self):
        source = maker(23)
        for poly in RINGS:
            ring = Ring(poly)
            n = ring.degree
            common = some_number(source, n, 10 ** 25)
            one, other = (
                made(ring, [brute_times(poly, common, some_number(source, n, 10 ** (380 // n)))]) for i in range(2)
            )
            told = meet(one, other)
            self.assertTrue(is_ideal(ring, told))
            self.assertTrue(inside(told, one) and inside(told, other))
            self.assertEqual(size(told) * size(joined(one, other)), size(one) * size(other))


class Point24(unittest.TestCase):
    def test_against_all_rests(self):
        for poly in RINGS:
            ring = Ring(poly)
            n = ring.degree
            for ideal in some_ideals(poly, 9):
                rests = rests_by(ideal)
                for x in rests:
                    due = [y for y in rests if brute_holds(ideal, less(ring, brute_times(poly, x, y), whole(n, 1)))]
                    if due:
                        self.assertEqual(inverse(ring, ideal, x), due[0])
                    else:
                        self.assertIs(refused(inverse, ring, ideal, x).__class__, NotApart)

    def test_by_the_whole_ring(self):
        source = maker(24)
        for poly in RINGS:
            ring = Ring(poly)
            n = ring.degree
            for x in (whole(n, 0), whole(n, 1), whole(n, -7), some_number(source, n, GREAT)):
                self.assertEqual(inverse(ring, whole_ring(ring), x), whole(n, 0))

    def test_of_nought(self):
        for poly in RINGS:
            ring = Ring(poly)
            for ideal in some_ideals(poly)[1:]:
                self.assertIs(refused(inverse, ring, ideal, whole(ring.degree, 0)).__class__, NotApart)

    def test_of_numbers_that_share_something(self):
        ring = Ring((5, 0, 1))
        self.assertIs(refused(inverse, ring, ((6, 0), (1, 1)), (2, 0)).__class__, NotApart)
        self.assertIs(refused(inverse, ring, ((6, 0), (1, 1)), (3, 0)).__class__, NotApart)
        self.assertIs(refused(inverse, ring, ((2, 0), (1, 1)), (1, 1)).__class__, NotApart)
        self.assertIs(refused(inverse, ring, ((3, 0), (1, 1)), (-1, -1)).__class__, NotApart)
        self.assertEqual(inverse(ring, ((3, 0), (1, 1)), (2, 1)), (1, 0))
        for poly in RINGS:
            ring = Ring(poly)
            for ideal in some_ideals(poly)[1:]:
                for row in ideal:
                    self.assertIs(refused(inverse, ring, ideal, row).__class__, NotApart)

    def test_numbers_of_either_sign_and_great_ones(self):
        source = maker(241)
        told_ones = 0
        for poly in RINGS:
            ring = Ring(poly)
            n = ring.degree
            for figures in (2, 60, 480):
                ideal = great_ideal(ring, source, figures)
                for time in range(4):
                    x = some_number(source, n, source.choice((2, GREAT)))
                    apart = joined(ideal, made(ring, [x])) == whole_ring(ring)
                    if not apart:
                        self.assertIs(refused(inverse, ring, ideal, x).__class__, NotApart)
                        continue
                    told_ones += 1
                    y = inverse(ring, ideal, x)
                    self.assertIs(y.__class__, tuple)
                    self.assertTrue(is_rest(ideal, y))
                    self.assertTrue(holds(ideal, less(ring, times(ring, x, y), whole(n, 1))))
        self.assertGreater(told_ones, 50)

    def test_known_ones(self):
        ring = Ring((1, 0, 1))
        self.assertEqual(inverse(ring, one_table(2, 7), (3, 0)), (5, 0))
        self.assertEqual(inverse(ring, one_table(2, 7), (-3, 0)), (2, 0))
        self.assertEqual(inverse(ring, one_table(2, 7), (0, 1)), (0, 6))
        self.assertEqual(inverse(ring, one_table(2, 7), (0, -1)), (0, 1))


class Point25(unittest.TestCase):
    def check(self, ring, one, other, x, y):
        z = both(ring, one, other, x, y)
        self.assertIs(z.__class__, tuple)
        self.assertTrue(holds(one, less(ring, z, x)))
        self.assertTrue(holds(other, less(ring, z, y)))
        self.assertTrue(is_rest(meet(one, other), z))
        return z

    def test_all_small_pairs(self):
        source = maker(25)
        for poly in RINGS:
            ring = Ring(poly)
            n = ring.degree
            ideals = some_ideals(poly, 12 if n < 4 else 9)
            for one, other in itertools.product(ideals, repeat=2):
                x, y = (some_number(source, n, source.choice((1, 9, GREAT))) for i in range(2))
                common = brute_stair(n, one[0][0], one + other)
                if norm_of(common) == 1:
                    z = self.check(ring, one, other, x, y)
                    self.assertEqual(both(ring, other, one, y, x), z)
                else:
                    self.assertIs(refused(both, ring, one, other, x, y).__class__, NotApart)
                    # There is such a number, and it is refused all the same.
                    self.assertIs(refused(both, ring, one, other, x, x).__class__, NotApart)

    def test_with_the_whole_ring(self):
        for poly in RINGS:
            ring = Ring(poly)
            n = ring.degree
            every = whole_ring(ring)
            x, y = whole(n, -5), (7, -9) + (0,) * (n - 2)
            self.assertEqual(both(ring, every, every, x, y), whole(n, 0))
            for ideal in some_ideals(poly):
                z = self.check(ring, every, ideal, x, y)
                self.assertEqual(self.check(ring, ideal, every, y, x), z)

    def test_an_ideal_with_itself(self):
        for poly in RINGS:
            ring = Ring(poly)
            n = ring.degree
            for ideal in some_ideals(poly)[1:]:
                self.assertIs(refused(both, ring, ideal, ideal, whole(n, 1), whole(n, 1)).__class__, NotApart)
                self.assertIs(refused(both, ring, ideal, ideal, whole(n, 0), whole(n, 0)).__class__, NotApart)

    def test_known_ones(self):
        ring = Ring((1, 0, 1))
        self.assertEqual(both(ring, one_table(2, 3), one_table(2, 5), (2, 0), (3, 0)), (8, 0))
        self.assertEqual(both(ring, one_table(2, 3), one_table(2, 5), (-1, 0), (-2, 1)), (8, 6))
        self.assertIs(refused(both, ring, one_table(2, 4), one_table(2, 6), (0, 0), (2, 0)).__class__, NotApart)

    def test_great_ones(self):
        source = maker(251)
        told_ones = 0
        for poly in RINGS:
            ring = Ring(poly)
            n = ring.degree
            for time in range(4):
                one, other = (great_ideal(ring, source, 480) for i in range(2))
                if joined(one, other) == whole_ring(ring):
                    told_ones += 1
                    self.check(ring, one, other, some_number(source, n, GREAT), some_number(source, n, GREAT))
        self.assertGreater(told_ones, 20)

    def test_two_rings_by_turns(self):
        one, other = Ring((5, 0, 1)), Ring((-10, 0, 1))
        for time in range(2):
            self.assertEqual(inverse(one, one_table(2, 7), (0, 1)), (0, 4))
            self.assertEqual(inverse(other, one_table(2, 7), (0, 1)), (0, 5))
            self.check(one, ((3, 0), (1, 1)), ((2, 0), (1, 1)), (1, 1), (0, 1))
            self.check(other, ((3, 0), (1, 1)), ((2, 0), (0, 1)), (1, 1), (0, 1))
