"""Points 18, 19 and 20."""

import unittest

from ringhouse.errors import NotHeld, Nought
from ringhouse.numbers import add, less, mate, norm, over, own, power, table_of, times, trace
from ringhouse.ring import Ring
from tests.helper import RINGS, brute_norm, brute_own, brute_table, brute_times, maker, refused

GREAT = 10 ** 100 - 1


def some(source, n):
    reach = source.choice((1, 4, 50, GREAT))
    x = [source.randint(-reach, reach) for i in range(n)]
    if source.random() < 0.3:
        x[-1] = 0
    return tuple(x)


def number(ring, k):
    return (k,) + (0,) * (ring.degree - 1)


def root_of(ring):
    return (0, 1) + (0,) * (ring.degree - 2)


class Point18(unittest.TestCase):
    def test_sums_and_products(self):
        source = maker(18)
        for poly in RINGS:
            ring = Ring(poly)
            for time in range(40):
                x, y = some(source, ring.degree), some(source, ring.degree)
                self.assertEqual(add(ring, x, y), tuple(a + b for a, b in zip(x, y)))
                self.assertEqual(less(ring, x, y), tuple(a - b for a, b in zip(x, y)))
                self.assertEqual(times(ring, x, y), brute_times(poly, x, y))
                self.assertEqual(times(ring, x, y), times(ring, y, x))

    def test_noughts_at_the_end_stay(self):
        ring = Ring((-2, 0, 0, 1))
        self.assertEqual(add(ring, (1, 2, 3), (1, -2, -3)), (2, 0, 0))
        self.assertEqual(less(ring, (1, 2, 3), (1, 2, 3)), (0, 0, 0))
        self.assertEqual(times(ring, (2, 0, 0), (3, 0, 0)), (6, 0, 0))
        self.assertEqual(times(ring, (0, 0, 0), (3, 4, 5)), (0, 0, 0))
        self.assertEqual(times(ring, (0, 1, 0), (0, 0, 1)), (2, 0, 0))

    def test_powers(self):
        source = maker(181)
        for poly in RINGS:
            ring = Ring(poly)
            x = some(source, ring.degree)
            due = number(ring, 1)
            for k in range(21):
                self.assertEqual(power(ring, x, k), due)
                due = brute_times(poly, due, x)

    def test_powers_at_the_edges(self):
        for poly in RINGS:
            ring = Ring(poly)
            nought = number(ring, 0)
            self.assertEqual(power(ring, nought, 0), number(ring, 1))
            self.assertEqual(power(ring, nought, 1), nought)
            self.assertEqual(power(ring, nought, 20), nought)
            self.assertEqual(power(ring, number(ring, -2), 20), number(ring, 2 ** 20))
            self.assertEqual(power(ring, root_of(ring), 1), root_of(ring))

    def test_two_rings_by_turns(self):
        one, other = Ring((1, 0, 1)), Ring((-2, 0, 1))
        for time in range(3):
            self.assertEqual(times(one, (0, 1), (0, 1)), (-1, 0))
            self.assertEqual(times(other, (0, 1), (0, 1)), (2, 0))
            self.assertEqual(norm(one, (1, 1)), 2)
            self.assertEqual(norm(other, (1, 1)), -1)
            self.assertEqual(power(one, (1, 1), 2), (0, 2))
            self.assertEqual(power(other, (1, 1), 2), (3, 2))


class Point19(unittest.TestCase):
    def test_table_norm_trace(self):
        source = maker(19)
        for poly in RINGS:
            ring = Ring(poly)
            for time in range(20):
                x = some(source, ring.degree)
                table = table_of(ring, x)
                self.assertIs(table.__class__, tuple)
                self.assertEqual(table, tuple(brute_table(poly, x)))
                self.assertTrue(all(row.__class__ is tuple for row in table))
                self.assertEqual(norm(ring, x), brute_norm(poly, x))
                self.assertEqual(trace(ring, x), sum(table[i][i] for i in range(ring.degree)))

    def test_norm_of_a_product(self):
        source = maker(191)
        for poly in RINGS:
            ring = Ring(poly)
            for time in range(20):
                x, y = some(source, ring.degree), some(source, ring.degree)
                self.assertEqual(norm(ring, times(ring, x, y)), norm(ring, x) * norm(ring, y))

    def test_norm_of_whole_numbers(self):
        for poly in RINGS:
            ring = Ring(poly)
            for k in (0, 1, -1, 7, -7):
                self.assertEqual(norm(ring, number(ring, k)), k ** ring.degree)
                self.assertEqual(trace(ring, number(ring, k)), k * ring.degree)

    def test_own(self):
        source = maker(192)
        for poly in RINGS:
            ring = Ring(poly)
            for time in range(8):
                x = some(source, ring.degree)
                told = own(ring, x)
                self.assertEqual(len(told), ring.degree + 1)
                self.assertEqual(told[-1], 1)
                self.assertEqual(told, brute_own(poly, x))
                for z in (-3, 0, 1, 10 ** 30):
                    value = sum(c * z ** i for i, c in enumerate(told))
                    self.assertEqual(value, norm(ring, less(ring, number(ring, z), x)))

    def test_own_of_nought_of_whole_numbers_and_of_t(self):
        for poly in RINGS:
            ring = Ring(poly)
            n = ring.degree
            self.assertEqual(own(ring, number(ring, 0)), (0,) * n + (1,))
            self.assertEqual(own(ring, root_of(ring)), poly)
            ones = {2: (1, -2, 1), 3: (-1, 3, -3, 1), 4: (1, -4, 6, -4, 1)}
            self.assertEqual(own(ring, number(ring, 1)), ones[n])
            self.assertEqual(own(ring, number(ring, -5)), brute_own(poly, number(ring, -5)))


class Point20(unittest.TestCase):
    def test_mate(self):
        source = maker(20)
        for poly in RINGS:
            ring = Ring(poly)
            for time in range(20):
                x = some(source, ring.degree)
                self.assertEqual(times(ring, x, mate(ring, x)), number(ring, norm(ring, x)))
                self.assertEqual(len(mate(ring, x)), ring.degree)

    def test_mate_at_the_edges(self):
        for poly in RINGS:
            ring = Ring(poly)
            self.assertEqual(mate(ring, number(ring, 0)), number(ring, 0))
            for k in (1, -1, 3, -3):
                self.assertEqual(mate(ring, number(ring, k)), number(ring, k ** (ring.degree - 1)))
        self.assertEqual(mate(Ring((1, 0, 1)), (3, 4)), (3, -4))

    def test_a_product_over_a_factor(self):
        source = maker(201)
        for poly in RINGS:
            ring = Ring(poly)
            for time in range(20):
                x, y = some(source, ring.degree), some(source, ring.degree)
                if any(y):
                    self.assertEqual(over(ring, times(ring, x, y), y), x)
                    self.assertEqual(over(ring, number(ring, 0), y), number(ring, 0))

    def test_over_nought(self):
        for poly in RINGS:
            ring = Ring(poly)
            nought = number(ring, 0)
            for x in (nought, number(ring, 1), root_of(ring)):
                self.assertIs(refused(over, ring, x, nought).__class__, Nought)

    def test_not_held(self):
        source = maker(202)
        for poly in RINGS:
            ring = Ring(poly)
            self.assertIs(refused(over, ring, number(ring, 1), number(ring, 2)).__class__, NotHeld)
            self.assertIs(refused(over, ring, number(ring, 3), number(ring, -2)).__class__, NotHeld)
            self.assertIs(refused(over, ring, root_of(ring), number(ring, 2)).__class__, NotHeld)
            for time in range(20):
                x, y = some(source, ring.degree), some(source, ring.degree)
                if not any(y):
                    continue
                refusal = refused(over, ring, x, y)
                many = norm(ring, y)
                held = all(c % many == 0 for c in brute_times(poly, x, mate(ring, y)))
                self.assertEqual(refusal is None, held)
                if refusal is not None:
                    self.assertIs(refusal.__class__, NotHeld)

    def test_only_some_places_fit(self):
        ring = Ring((1, 0, 1))
        self.assertIs(refused(over, ring, (2, 1), (2, 0)).__class__, NotHeld)
        self.assertIs(refused(over, ring, (1, 2), (2, 0)).__class__, NotHeld)
        self.assertEqual(over(ring, (-4, 2), (-2, 0)), (2, -1))
        self.assertEqual(over(ring, (5, 0), (2, 1)), (2, -1))

    def test_refused_ones_may_be_asked_again(self):
        ring = Ring((1, 0, 1))
        for time in range(3):
            self.assertIs(refused(over, ring, (1, 0), (0, 0)).__class__, Nought)
            self.assertIs(refused(over, ring, (1, 0), (2, 0)).__class__, NotHeld)
            self.assertEqual(over(ring, (4, 0), (2, 0)), (2, 0))

    def test_units(self):
        ring = Ring((-2, 0, 1))
        self.assertEqual(over(ring, (1, 0), (1, 1)), (-1, 1))
        self.assertEqual(over(ring, (0, 1), (-1, 1)), (2, 1))


class Point2(unittest.TestCase):
    def test_nothing_handed_in_is_changed(self):
        ring = Ring((-2, 0, 0, 1))
        x, y = (1, 2, 3), (4, 5, 6)
        for call in (add, less, times):
            call(ring, x, y)
        over(ring, times(ring, x, y), y)
        own(ring, x)
        self.assertEqual((x, y), ((1, 2, 3), (4, 5, 6)))
        self.assertEqual((ring.poly, ring.degree, ring.measure), ((-2, 0, 0, 1), 3, -108))
