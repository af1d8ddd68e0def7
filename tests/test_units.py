"""Points 46, 47 and 48, and of point 5 what it says of units."""

import itertools
import unittest

from ringhouse.errors import Endless, NoBasic, NotTwo, NotUnit
from ringhouse.ring import Ring
from ringhouse.units import as_power, basic, units
from tests.helper import (
    ABOVE, BELOW, GREAT_ONES, GREAT_UNITS, brute_norm, brute_times, measure_two, refused, rings_of,
)


def above_nought(polys=ABOVE + GREAT_ONES + GREAT_UNITS + ((-5, 1, 1), (-19, -1, 1))):
    return rings_of([poly for poly in polys if measure_two(poly) > 0])


def below_nought():
    return rings_of([poly for poly in BELOW + GREAT_ONES if measure_two(poly) < 0])


def brute_basic(poly, most):
    """The basic unit by all q from 1 on; None where q is above most."""
    b = poly[1]
    for q in range(1, most + 1):
        # The norm is p * p - b * p * q + c * q * q: its square part tells where p may lie.
        gap = int((measure_two(poly) * q * q) ** 0.5)
        found = []
        for p in range((b * q + gap) // 2 - 3, (b * q + gap) // 2 + 4):
            if 2 * p - b * q >= 1 and brute_norm(poly, (p, q)) in (1, -1):
                found.append(p)
        if found:
            return (min(found), q)
    return None


def inverse_of(poly, unit):
    """The number whose product with a unit is 1."""
    p, q = unit
    sign = brute_norm(poly, unit)
    return (sign * (p - poly[1] * q), -sign * q)


def power_of(poly, unit, k):
    base = unit if k >= 0 else inverse_of(poly, unit)
    x = (1, 0)
    for step in range(abs(k)):
        x = brute_times(poly, x, base)
    return x


class Point46(unittest.TestCase):
    def test_against_a_search(self):
        for poly, ring in below_nought():
            reach = abs(poly[1]) + 3
            rows = itertools.product(range(-reach, reach + 1), range(-3, 4))
            due = [x for x in rows if brute_norm(poly, x) in (1, -1)]
            told = units(ring)
            self.assertIs(told.__class__, list)
            self.assertEqual(told, due)
            self.assertEqual(len(told), {-3: 6, -4: 4}.get(ring.measure, 2))

    def test_measures_3_and_4_below_nought_in_all_their_rings(self):
        rings = []
        for b in range(-44, 45):
            c = (b * b + 3) // 4 if b % 2 else b * b // 4 + 1
            if c <= 499:
                rings.append(((c, b, 1), Ring((c, b, 1))))
        self.assertEqual({ring.measure for poly, ring in rings}, {-3, -4})
        for poly, ring in rings:
            told = units(ring)
            self.assertEqual(len(told), 6 if ring.measure == -3 else 4)
            self.assertEqual(told, sorted(set(told)))
            self.assertTrue(all(brute_norm(poly, x) == 1 for x in told))

    def test_known_ones(self):
        self.assertEqual(units(Ring((1, 0, 1))), [(-1, 0), (0, -1), (0, 1), (1, 0)])
        self.assertEqual(units(Ring((1, 1, 1))), [(-1, -1), (-1, 0), (0, -1), (0, 1), (1, 0), (1, 1)])
        self.assertEqual(units(Ring((1, -1, 1))), [(-1, 0), (-1, 1), (0, -1), (0, 1), (1, -1), (1, 0)])
        self.assertEqual(units(Ring((2, 0, 1))), [(-1, 0), (1, 0)])

    def test_endless(self):
        for poly, ring in above_nought():
            self.assertIs(refused(units, ring).__class__, Endless)
        # A ring of degree 3 has no end of units either, but NotTwo comes first.
        self.assertIs(refused(units, Ring((-2, 0, 0, 1))).__class__, NotTwo)

    def test_lists_are_the_askers(self):
        ring = Ring((1, 0, 1))
        units(ring).clear()
        self.assertEqual(len(units(ring)), 4)


class Point47(unittest.TestCase):
    def test_against_a_search(self):
        signs = set()
        for poly, ring in above_nought():
            due = brute_basic(poly, 3000)
            told = basic(ring)
            self.assertIs(told.__class__, tuple)
            if due is None:
                self.assertGreater(told[1], 3000)
            else:
                self.assertEqual(told, due, poly)
                signs.add((ring.measure % 2, brute_norm(poly, told)))
        self.assertEqual(signs, {(0, 1), (0, -1), (1, 1), (1, -1)})

    def test_all_small_measures(self):
        for b in (-3, -2, 0, 1, 5):
            for c in range(-60, b * b // 4):
                if refused(Ring, (c, b, 1)) is None:
                    due = brute_basic((c, b, 1), 40)
                    if due is not None:
                        self.assertEqual(basic(Ring((c, b, 1))), due, (c, b))
                    else:
                        self.assertGreater(basic(Ring((c, b, 1)))[1], 40)

    def test_measure_5_has_two_units_with_the_least_q(self):
        for b in (-43, -21, -1, 1, 3, 43):
            poly = ((b * b - 5) // 4, b, 1)
            told = basic(Ring(poly))
            self.assertEqual(told, ((1 + b) // 2, 1))
            self.assertEqual(brute_norm(poly, told), -1)
            self.assertEqual(brute_norm(poly, (told[0] + 1, 1)), 1)

    def test_known_ones(self):
        for poly, due in (
            ((-2, 0, 1), (1, 1)), ((-3, 0, 1), (2, 1)), ((-1, -1, 1), (0, 1)), ((-1, 1, 1), (1, 1)),
            ((-10, 0, 1), (3, 1)), ((-94, 0, 1), (2143295, 221064)), ((-15, 1, 1), (22, 5)), ((-15, -1, 1), (17, 5)),
            ((-5, 1, 1), (3, 1)), ((-331, 0, 1), (2785589801443970, 153109862634573)),
        ):
            self.assertEqual(basic(Ring(poly)), due)
            self.assertIn(brute_norm(poly, due), (1, -1))

    def test_great_ones(self):
        sizes = []
        for poly, ring in rings_of(GREAT_UNITS):
            p, q = basic(ring)
            sizes.append(len(str(q)))
            self.assertGreaterEqual(q, 1)
            self.assertGreaterEqual(2 * p - poly[1] * q, 1)
            # A lesser unit would be one of which this is a power: of the second, third .. none is.
            for k in (2, 3, 5, 7):
                self.assertFalse(is_power(poly, (p, q), k))
            self.assertTrue(is_power(poly, power_of(poly, (p, q), 3), 3))
        self.assertEqual((min(sizes), max(sizes)), (44, 184))
        self.assertEqual([brute_norm(poly, basic(ring)) for poly, ring in rings_of(GREAT_UNITS)], [1, 1, -1, -1])

    def test_no_basic(self):
        for poly, ring in below_nought():
            self.assertIs(refused(basic, ring).__class__, NoBasic)
        for poly in ((1, 1, 0, 1), (1, 0, 0, 0, 1)):
            self.assertIs(refused(basic, Ring(poly)).__class__, NotTwo)


def is_power(poly, unit, k):
    """Whether a unit above 1 is a k-th power of one, up to its sign, by the trace of such a root."""
    trace = 2 * unit[0] - poly[1] * unit[1]
    low, high = 0, 1
    while high ** k <= 4 * trace:
        high *= 2
    while high - low > 1:
        middle = (low + high) // 2
        low, high = (middle, high) if middle ** k <= trace else (low, middle)
    # The trace of the root is within two of the k-th root of the trace: all that come are tried.
    for s in range(max(1, low - 2), low + 4):
        for sign in (1, -1):
            square = s * s - 4 * sign
            if square > 0 and trace_of_power(s, sign, k) == trace and sign ** k == brute_norm(poly, unit):
                if is_square_times(square, measure_two(poly)):
                    return True
    return False


def trace_of_power(s, sign, k):
    one, other = 2, s
    for step in range(k - 1):
        one, other = other, s * other - sign * one
    return other


def is_square_times(m, d):
    """Whether m is d times a square."""
    if m % d != 0:
        return False
    low, high = 0, m // d + 1
    while high - low > 1:
        middle = (low + high) // 2
        low, high = (middle, high) if middle * middle <= m // d else (low, middle)
    return low * low == m // d


class Point48(unittest.TestCase):
    def test_one_and_minus_one(self):
        for poly, ring in above_nought():
            told = as_power(ring, (1, 0))
            self.assertIs(told.__class__, tuple)
            self.assertEqual(told, (1, 0))
            self.assertEqual(as_power(ring, (-1, 0)), (-1, 0))

    def test_powers_of_either_sign(self):
        for poly, ring in above_nought():
            e = basic(ring)
            most = 2 if e[1] > 10 ** 40 else 9
            for k in range(-most, most + 1):
                x = power_of(poly, e, k)
                self.assertEqual(as_power(ring, x), (1, k), (poly, k))
                self.assertEqual(as_power(ring, tuple(-c for c in x)), (-1, k), (poly, k))

    def test_a_great_place_b_beside_a_small_measure(self):
        for b in (-43, -44, 44, 43, -20, 15):
            for d in (5, 8, 12, 13):
                if (b * b - d) % 4 == 0:
                    poly = ((b * b - d) // 4, b, 1)
                    ring = Ring(poly)
                    for k in range(-6, 7):
                        x = power_of(poly, basic(ring), k)
                        self.assertEqual(as_power(ring, x), (1, k))
                        self.assertEqual(as_power(ring, tuple(-c for c in x)), (-1, k))

    def test_some_hundred_figures(self):
        for poly in ((-1, 1, 1), (-1, -1, 1), (-2, 0, 1), (-3, 0, 1), (-499, 0, 1), (-99, 199, 1), (-406, 195, 1)):
            ring = Ring(poly)
            e = basic(ring)
            x, k = e, 1
            while max(abs(c) for c in x) < 10 ** 590:
                x, k = brute_times(poly, x, e), k + 1
                if max(abs(c) for c in x) < 10 ** 600:
                    best, often = x, k
            self.assertGreater(max(abs(c) for c in best), 10 ** 400)
            self.assertEqual(as_power(ring, best), (1, often))
            self.assertEqual(as_power(ring, tuple(-c for c in inverse_of(poly, best))), (-1, -often))

    def test_not_unit(self):
        for poly, ring in above_nought():
            for x in ((0, 0), (2, 0), (-2, 0), (0, 2), (3, 0), (10 ** 599, 0), (10 ** 600 - 1, 10 ** 600 - 1)):
                self.assertIs(refused(as_power, ring, x).__class__, NotUnit)
            e = basic(ring)
            for x in ((e[0] + 3 * e[1] + 1, 3 * e[1]), tuple(2 * c for c in e)):
                if brute_norm(poly, x) not in (1, -1):
                    self.assertIs(refused(as_power, ring, x).__class__, NotUnit)
            # What was refused may be followed by a good asking.
            self.assertEqual(as_power(ring, e), (1, 1))

    def test_the_order_of_the_refusals(self):
        for poly, ring in below_nought():
            for x in ((1, 0), (0, 0), (5, 7)):
                self.assertIs(refused(as_power, ring, x).__class__, NoBasic)
        for poly in ((-2, 0, 0, 1), (1, 1, 1, 1, 1)):
            for x in ((1, 0), (0, 0), (5, 7), (1, 0, 0), (1, 0, 0, 0)):
                self.assertIs(refused(as_power, Ring(poly), x).__class__, NotTwo)

    def test_each_small_unit_is_a_power(self):
        for poly, ring in above_nought(ABOVE):
            found = 0
            for x in itertools.product(range(-40, 41), repeat=2):
                if brute_norm(poly, x) in (1, -1):
                    sign, k = as_power(ring, x)
                    self.assertIn(sign, (1, -1))
                    self.assertEqual(tuple(sign * c for c in power_of(poly, basic(ring), k)), x)
                    found += 1
            self.assertGreaterEqual(found, 2)

    def test_two_rings_by_turns(self):
        one, other = Ring((-2, 0, 1)), Ring((-3, 0, 1))
        for time in range(2):
            self.assertEqual(as_power(one, (3, 2)), (1, 2))
            self.assertEqual(as_power(other, (7, 4)), (1, 2))
            self.assertIs(refused(as_power, other, (3, 2)).__class__, NotUnit)
