"""Points 36 to 39 and 41, and of point 5 what it says of homes; likes, classes and units apart."""

import itertools
import math
import unittest

from ringhouse.errors import NotTwo
from ringhouse.homes import home, road
from ringhouse.ideals import is_ideal, made, size, whole_ring
from ringhouse.lists import of_norm
from ringhouse.numbers import norm
from ringhouse.products import product, raised
from ringhouse.ring import Ring
from ringhouse.steps import chosen, on_wheel, place_of, stepped, table_at, turn_at, wheel_from
from ringhouse.whole import root
from tests.helper import (
    ABOVE, BELOW, GREAT_ONES, RINGS, brute_alike, brute_home, brute_ideal_product, brute_ideals, brute_made, maker,
    one_table, refused, rings_of, some_ideals, some_number, turned, whole,
)


class Homes(unittest.TestCase):
    def check_road(self, poly, ring, ideal):
        told = road(ring, ideal)
        self.assertIs(told.__class__, tuple)
        x, k = told
        self.assertIs(x.__class__, tuple)
        self.assertEqual(len(x), 2)
        self.assertTrue(any(x))
        self.assertGreaterEqual(k, 1)
        self.assertEqual(math.gcd(k, x[0], x[1]), 1)
        there = product(ring, made(ring, [x]), ideal)
        self.assertEqual(there, product(ring, one_table(2, k), home(ring, ideal)))


class Point36(unittest.TestCase):
    def test_not_two(self):
        for poly in RINGS:
            if len(poly) == 3:
                continue
            ring = Ring(poly)
            n = ring.degree
            for ideal in (whole_ring(ring), one_table(n, 6), one_table(n, 10 ** 100)):
                for call in (home, road):
                    self.assertIs(refused(call, ring, ideal).__class__, NotTwo)
            # Ahead of all else: nothing of the ideal is looked at.
            for nothing in ((), ((0, 0), (0, 0)), one_table(2)):
                for call in (home, road):
                    self.assertIs(refused(call, ring, nothing).__class__, NotTwo)


class Point38(Homes):
    def test_against_a_search_below_nought(self):
        for poly, ring in rings_of(BELOW):
            for ideal in some_ideals(poly, 34):
                self.assertEqual(home(ring, ideal), brute_home(poly, ideal), (poly, ideal))

    def test_against_a_search_above_nought(self):
        for poly, ring in rings_of(ABOVE):
            for ideal in some_ideals(poly, 25):
                self.assertEqual(home(ring, ideal), brute_home(poly, ideal), (poly, ideal))

    def test_alike_ones_have_the_same_home(self):
        for poly, ring in rings_of(BELOW[4:8] + ABOVE[3:7]):
            for one, other in itertools.combinations(some_ideals(poly, 12), 2):
                due = brute_alike(poly, one, other)
                self.assertEqual(home(ring, one) == home(ring, other), due, (poly, one, other))

    def test_made_by_one_number(self):
        source = maker(38)
        signs = set()
        for poly, ring in rings_of(BELOW + ABOVE + GREAT_ONES):
            every = whole_ring(ring)
            for reach in (1, 2, 9, 1000, 10 ** 100 - 1):
                x = some_number(source, 2, reach)
                signs.add((ring.measure > 0, norm(ring, x) > 0))
                self.assertEqual(home(ring, made(ring, [x])), every)
            for k in (1, 2, 6, 211):
                self.assertEqual(home(ring, made(ring, [whole(2, k)])), every)
        self.assertEqual(signs, {(False, True), (True, True), (True, False)})

    def test_known_ones(self):
        ring = Ring((-3, 0, 1))
        self.assertEqual(home(ring, made(ring, [(1, 1)])), whole_ring(ring))
        ring = Ring((5, 0, 1))
        two = ((2, 0), (1, 1))
        for ideal in (two, ((3, 0), (1, 1)), ((3, 0), (2, 1)), ((7, 0), (3, 1)), ((6, 0), (3, 3))):
            self.assertEqual(home(ring, ideal), two)
        # Two of one norm that are not alike: each is its own home.
        ring = Ring((6, 1, 1))
        self.assertEqual(home(ring, ((2, 0), (0, 1))), ((2, 0), (0, 1)))
        self.assertEqual(home(ring, ((2, 0), (1, 1))), ((2, 0), (1, 1)))
        # Two of one norm that are alike: the first one is the home of both.
        ring = Ring((9, 1, 1))
        self.assertEqual(home(ring, ((3, 0), (0, 1))), ((3, 0), (0, 1)))
        self.assertEqual(home(ring, ((3, 0), (1, 1))), ((3, 0), (0, 1)))

    def test_where_two_have_the_least_norm(self):
        pairs = 0
        for poly, ring in rings_of(BELOW + ABOVE):
            for m in range(2, 20):
                for one, other in itertools.combinations(brute_ideals(poly, m), 2):
                    if home(ring, one) in (one, other) and brute_alike(poly, one, other):
                        pairs += 1
                        self.assertEqual(home(ring, one), one)
                        self.assertEqual(home(ring, other), one)
        self.assertGreater(pairs, 5)

    def test_the_home_of_a_home(self):
        for poly, ring in rings_of(BELOW + ABOVE + GREAT_ONES):
            for m in range(1, 40):
                for ideal in of_norm(ring, m):
                    there = home(ring, ideal)
                    self.assertTrue(is_ideal(ring, there))
                    self.assertLessEqual(size(there), m)
                    self.assertEqual(home(ring, there), there)

    def test_multiples_of_an_ideal(self):
        source = maker(381)
        for poly, ring in rings_of(BELOW + ABOVE + GREAT_ONES):
            for ideal in some_ideals(poly, 12):
                due = home(ring, ideal)
                for k in (2, 3, 30, 10 ** 60 + 1):
                    self.assertEqual(home(ring, product(ring, ideal, one_table(2, k))), due)
                for reach in (3, 100, 10 ** 90):
                    x = some_number(source, 2, reach)
                    self.assertEqual(home(ring, product(ring, ideal, made(ring, [x]))), due)

    def test_great_norms(self):
        source = maker(382)
        for poly, ring in rings_of(BELOW + ABOVE + GREAT_ONES):
            for ideal in (of_norm(ring, 2) + of_norm(ring, 3) + of_norm(ring, 5))[-3:]:
                x = some_number(source, 2, 10 ** 245)
                great = product(ring, ideal, made(ring, [x]))
                self.assertEqual(home(ring, great), home(ring, ideal))
                self.check_road(poly, ring, great)
                power = raised(ring, ideal, 20)
                self.assertEqual(home(ring, product(ring, turned(poly, power), power)), whole_ring(ring))

    def test_two_rings_by_turns(self):
        one, other = Ring((5, 0, 1)), Ring((-10, 0, 1))
        for time in range(2):
            self.assertEqual(home(one, ((7, 0), (3, 1))), ((2, 0), (1, 1)))
            self.assertEqual(home(other, ((3, 0), (1, 1))), ((2, 0), (0, 1)))
            self.assertEqual(home(one, ((5, 0), (0, 1))), one_table(2))
            self.assertEqual(home(other, ((10, 0), (0, 1))), one_table(2))


class Point39(Homes):
    def test_roads(self):
        for poly, ring in rings_of(BELOW + ABOVE + GREAT_ONES):
            for m in range(1, 30):
                for ideal in of_norm(ring, m):
                    self.check_road(poly, ring, ideal)

    def test_roads_from_multiples(self):
        source = maker(39)
        for poly, ring in rings_of(BELOW + ABOVE + GREAT_ONES):
            for ideal in some_ideals(poly, 12)[-4:]:
                for k in (2, 3, 4, 30, 10 ** 60):
                    self.check_road(poly, ring, product(ring, ideal, one_table(2, k)))
                x = some_number(source, 2, source.choice((9, 10 ** 50)))
                self.check_road(poly, ring, product(ring, ideal, made(ring, [x])))

    def test_from_a_home(self):
        for poly, ring in rings_of(BELOW + ABOVE + GREAT_ONES):
            for m in range(1, 12):
                for ideal in of_norm(ring, m):
                    x, k = road(ring, home(ring, ideal))
                    # x times it is k times it, and nothing divides both: x is a unit, and k is 1.
                    self.assertEqual(k, 1)
                    self.assertIn(norm(ring, x), (1, -1))

    def test_from_made_ones(self):
        ring = Ring((-3, 0, 1))
        x, k = road(ring, made(ring, [(1, 1)]))
        self.assertEqual(brute_ideal_product(ring.poly, brute_made(ring.poly, [x]), ((2, 0), (1, 1))), one_table(2, k))
        ring = Ring((1, 0, 1))
        x, k = road(ring, one_table(2, 6))
        self.assertEqual((norm(ring, x), k), (1, 6))

    def test_two_rings_by_turns(self):
        polys = ((5, 0, 1), (-10, 0, 1))
        rings = [Ring(poly) for poly in polys]
        for time in range(2):
            for poly, ring in zip(polys, rings):
                for m in (3, 9, 81):
                    for ideal in of_norm(ring, m):
                        self.check_road(poly, ring, ideal)


class Point41(unittest.TestCase):
    def test_places(self):
        for poly, ring in rings_of(BELOW + ABOVE + GREAT_ONES):
            for m in range(1, 30):
                for ideal in of_norm(ring, m):
                    place, k = place_of(ring, ideal)
                    self.assertEqual(product(ring, one_table(2, k), table_at(place)), ideal)

    def test_the_choice_of_r(self):
        for poly, ring in rings_of(BELOW + ABOVE + GREAT_ONES):
            b, d = poly[1], ring.measure
            for a in range(1, 40):
                for r in range(-a, 2 * a, 3):
                    told = chosen(ring, a, r)
                    self.assertEqual(told[0], a)
                    self.assertEqual((told[1] - r) % a, 0)
                    u = 2 * told[1] - b
                    if d > 0 and a <= root(d):
                        self.assertTrue(root(d) - 2 * a < u <= root(d))
                    else:
                        self.assertTrue(-a < u <= a)

    def test_steps(self):
        for poly, ring in rings_of(BELOW + ABOVE + GREAT_ONES):
            for m in range(1, 30):
                for ideal in of_norm(ring, m):
                    place, k = place_of(ring, ideal)
                    further = stepped(ring, place)
                    moved = product(ring, made(ring, [turn_at(ring, place)]), table_at(place))
                    self.assertEqual(moved, product(ring, one_table(2, place[0]), table_at(further)))

    def test_wheels(self):
        for poly, ring in rings_of(ABOVE + GREAT_ONES):
            if ring.measure < 0:
                continue
            place = place_of(ring, whole_ring(ring))[0]
            self.assertTrue(on_wheel(ring, place))
            wheel = wheel_from(ring, place)
            self.assertEqual(len(set(wheel)), len(wheel))
            self.assertTrue(all(on_wheel(ring, spot) for spot in wheel))
            self.assertEqual(stepped(ring, wheel[-1]), place)
