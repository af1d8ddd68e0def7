"""Points 30 and 31, and of point 5 what it says of primes."""

import unittest

from ringhouse.above import above
from ringhouse.double import meet
from ringhouse.errors import Nought, TooFar
from ringhouse.ideals import joined, made, size, whole_ring
from ringhouse.numbers import times
from ringhouse.products import product, raised
from ringhouse.quotients import colon
from ringhouse.ring import Ring
from ringhouse.taken import built, often, often_in, taken
from tests.helper import (
    RINGS, brute_ideal_product, brute_often, maker, one_table, refused, some_ideals, some_number, whole,
)


def primes_of(ring, numbers):
    """The primes above some small primes, in the order of point 31."""
    return [row[0] for p in numbers for row in above(ring, p)]


class Point30(unittest.TestCase):
    def test_small_ideals_against_the_powers(self):
        for poly in RINGS:
            ring = Ring(poly)
            for prime in primes_of(ring, (2, 3, 5, 7, 11)):
                for ideal in some_ideals(poly):
                    self.assertEqual(often(ring, prime, ideal), brute_often(poly, prime, ideal), (poly, prime, ideal))

    def test_numbers_against_the_powers(self):
        source = maker(30)
        for poly in RINGS:
            ring = Ring(poly)
            n = ring.degree
            for prime in primes_of(ring, (2, 3, 5)):
                for time in range(6):
                    x = some_number(source, n, source.choice((3, 30)))
                    if time % 2:
                        x = times(ring, x, prime[source.randrange(n)])
                    due = brute_often(poly, prime, made(ring, [x]))
                    self.assertEqual(often_in(ring, prime, x), due)
                    self.assertEqual(often_in(ring, prime, tuple(-c for c in x)), due)

    def test_once_several_times_and_some_hundred_times(self):
        for poly in RINGS:
            ring = Ring(poly)
            for p in (2, 3, 199):
                rows = above(ring, p)
                for at, (prime, times_in_p, degree) in enumerate(rows):
                    most = {2: 1600, 3: 1000, 199: 200}[p] // degree
                    for k in (0, 1, 2, 7, 20, most):
                        ideal = built(ring, [(prime, min(240, k))] + [(prime, min(240, j)) for j in parts(k)])
                        self.assertEqual(often(ring, prime, ideal), k)
                        for other, row in enumerate(rows):
                            if other != at:
                                self.assertEqual(often(ring, row[0], ideal), 0)

    def test_primes_above_one_small_prime_beside_each_other(self):
        for poly, p in (((-1, -2, 1, 1), 13), ((1, 1, 1, 1, 1), 11), ((5, 0, 1), 3), ((-198, -65, 0, 1), 2)):
            ring = Ring(poly)
            primes = primes_of(ring, (p,))
            self.assertGreater(len(primes), 1)
            many = [3 + 17 * at for at in range(len(primes))]
            ideal = built(ring, list(zip(primes, many)))
            self.assertEqual([often(ring, prime, ideal) for prime in primes], many)

    def test_whole_numbers(self):
        for poly in RINGS:
            ring = Ring(poly)
            n = ring.degree
            for p in (2, 3, 5, 199):
                for prime, times_in_p, degree in above(ring, p):
                    for k in (0, 1, 2, 40):
                        for more in (1, -1, 211, -7 * 13):
                            self.assertEqual(often_in(ring, prime, whole(n, more * p ** k)), k * times_in_p)
                    self.assertEqual(often(ring, prime, one_table(n, 6 * p)), often_in(ring, prime, whole(n, 6 * p)))

    def test_great_numbers(self):
        source = maker(301)
        for poly in RINGS:
            ring = Ring(poly)
            n = ring.degree
            for prime in primes_of(ring, (2, 7)):
                x = some_number(source, n, 10 ** 80)
                y = some_number(source, n, 9)
                one, other = (often_in(ring, prime, z) for z in (x, y))
                self.assertEqual(often_in(ring, prime, times(ring, x, y)), one + other)
                self.assertEqual(often(ring, prime, made(ring, [times(ring, x, y)])), one + other)

    def test_nought(self):
        for poly in RINGS:
            ring = Ring(poly)
            nought = whole(ring.degree, 0)
            for prime in primes_of(ring, (2, 3, 199)):
                self.assertIs(refused(often_in, ring, prime, nought).__class__, Nought)
                self.assertEqual(often_in(ring, prime, whole(ring.degree, 1)), 0)
                self.assertEqual(often(ring, prime, whole_ring(ring)), 0)


def parts(k):
    """What is left of k above 240, in steps of at most 240."""
    left = max(0, k - 240)
    return [240] * (left // 240) + [left % 240]


class Point31(unittest.TestCase):
    def test_small_ideals(self):
        for poly in RINGS:
            ring = Ring(poly)
            primes = primes_of(ring, (2, 3, 5, 7, 11))
            for ideal in some_ideals(poly):
                counts = [(prime, brute_often(poly, prime, ideal)) for prime in primes]
                due = [row for row in counts if row[1] > 0]
                told = taken(ring, ideal)
                self.assertEqual(told, due)
                self.assertIs(told.__class__, list)
                self.assertTrue(all(row.__class__ is tuple for row in told))
                self.assertEqual(built(ring, told), ideal)

    def test_the_whole_ring(self):
        for poly in RINGS:
            ring = Ring(poly)
            self.assertEqual(taken(ring, whole_ring(ring)), [])
            self.assertEqual(built(ring, []), whole_ring(ring))

    def test_what_is_built_is_taken_again(self):
        source = maker(31)
        for poly in RINGS:
            ring = Ring(poly)
            primes = primes_of(ring, (2, 3, 5, 13, 197, 199))
            for time in range(5):
                rows = [(prime, source.randint(1, 9)) for prime in primes if source.random() < 0.6]
                mixed = list(rows)
                source.shuffle(mixed)
                ideal = built(ring, mixed)
                self.assertEqual(taken(ring, ideal), rows)
                self.assertEqual(built(ring, rows), ideal)

    def test_the_order(self):
        ring = Ring((5, 0, 1))
        rows = [
            (((2, 0), (1, 1)), 3), (((3, 0), (1, 1)), 1), (((3, 0), (2, 1)), 2), (one_table(2, 11), 1),
            (one_table(2, 199), 1),
        ]
        self.assertEqual(taken(ring, built(ring, rows[::-1])), rows)
        # Ahead of all the small primes count, then the degrees: the table of the second is the lesser one.
        cubic = Ring((-2, 0, 0, 1))
        five = [(prime, 2) for prime in primes_of(cubic, (5,))]
        self.assertEqual([size(prime) for prime, many in five], [5, 25])
        self.assertGreater(five[0][0], five[1][0])
        self.assertEqual(taken(cubic, built(cubic, five)), five)

    def test_known_ones(self):
        ring = Ring((5, 0, 1))
        two, three, other = ((2, 0), (1, 1)), ((3, 0), (1, 1)), ((3, 0), (2, 1))
        self.assertEqual(taken(ring, one_table(2, 6)), [(two, 2), (three, 1), (other, 1)])
        self.assertEqual(taken(ring, made(ring, [(1, 1)])), [(two, 1), (three, 1)])
        self.assertEqual(taken(ring, made(ring, [(1, -1)])), [(two, 1), (other, 1)])

    def test_too_far(self):
        for poly in RINGS:
            ring = Ring(poly)
            n = ring.degree
            for k in (211, 223, 211 * 223, 2 * 211, 2 ** 50 * 199 * 211, 10 ** 99 + 289, 211 ** 40):
                self.assertIs(refused(taken, ring, one_table(n, k)).__class__, TooFar)
            # Neither the bound itself nor a great corner of small primes is too far.
            self.assertEqual(built(ring, taken(ring, one_table(n, 199))), one_table(n, 199))
            great = one_table(n, 2 ** 90 * 3 ** 40 * 197)
            self.assertEqual(built(ring, taken(ring, great)), great)
        ring = Ring((1, 0, 1))
        self.assertIs(refused(taken, ring, made(ring, [(15, 2)])).__class__, TooFar)
        self.assertIs(refused(taken, ring, made(ring, [(30, 4), (0, 458)])).__class__, TooFar)

    def test_too_far_by_another_corner_is_none(self):
        # Corner 0 is divided by what divides the norm: nothing is left out by asking it alone.
        ring = Ring((-1, -2, 1, 1))
        for ideal in some_ideals((-1, -2, 1, 1)):
            far = product(ring, ideal, made(ring, [(211, 0, 0)]))
            self.assertIs(refused(taken, ring, far).__class__, TooFar)

    def test_built_of_any_ideals(self):
        for poly in RINGS:
            ring = Ring(poly)
            n = ring.degree
            ideals = some_ideals(poly)
            one, other = ideals[-1], ideals[len(ideals) // 2]
            due = brute_ideal_product(poly, brute_ideal_product(poly, one, one), other)
            self.assertEqual(built(ring, [(one, 2), (other, 1)]), due)
            self.assertEqual(built(ring, [(one, 1), (other, 1), (one, 1)]), due)
            self.assertEqual(built(ring, [(one, 0)]), whole_ring(ring))
            self.assertEqual(built(ring, [(one, 2), (one, 0), (whole_ring(ring), 240), (other, 1)]), due)
            self.assertEqual(built(ring, [(one_table(n, 6), 2), (one_table(n, 211), 1)]), one_table(n, 36 * 211))

    def test_built_to_the_240th(self):
        for poly in RINGS:
            ring = Ring(poly)
            n = ring.degree
            self.assertEqual(built(ring, [(one_table(n, 3), 240)]), one_table(n, 3 ** 240))
            prime = above(ring, 2)[0][0]
            told = built(ring, [(prime, 240)])
            self.assertEqual(told, product(ring, raised(ring, raised(ring, prime, 12), 19), raised(ring, prime, 12)))
            self.assertEqual(size(told), size(prime) ** 240)
            self.assertEqual(taken(ring, told), [(prime, 240)])

    def test_great_norms(self):
        source = maker(311)
        for poly in RINGS:
            ring = Ring(poly)
            rows = []
            for prime in primes_of(ring, (2, 3, 5, 7, 193)):
                rows.append((prime, source.randint(1, 20)))
            ideal = built(ring, rows)
            self.assertGreater(size(ideal), 10 ** 30)
            self.assertEqual(taken(ring, ideal), rows)

    def test_lists_are_the_askers(self):
        ring = Ring((5, 0, 1))
        ideal = one_table(2, 6)
        told = taken(ring, ideal)
        kept = list(told)
        told.clear()
        self.assertEqual(taken(ring, ideal), kept)
        rows = list(kept)
        self.assertEqual(built(ring, rows), ideal)
        self.assertEqual(rows, kept)
        rows.clear()
        self.assertEqual(built(ring, kept), ideal)

    def test_two_rings_by_turns(self):
        one, other = Ring((5, 0, 1)), Ring((-10, 0, 1))
        for time in range(2):
            self.assertEqual(taken(one, one_table(2, 2)), [(((2, 0), (1, 1)), 2)])
            self.assertEqual(taken(other, one_table(2, 2)), [(((2, 0), (0, 1)), 2)])
            self.assertEqual(often(one, ((3, 0), (1, 1)), one_table(2, 3)), 1)
            self.assertEqual(often(other, ((3, 0), (1, 1)), one_table(2, 9)), 2)
            self.assertIs(refused(taken, one, one_table(2, 211)).__class__, TooFar)


class Point5(unittest.TestCase):
    def test_how_often_primes_go_into_what_comes_of_two(self):
        source = maker(5)
        for poly in RINGS:
            ring = Ring(poly)
            primes = primes_of(ring, (2, 3, 5, 199))
            for time in range(3):
                ones = [source.randint(0, 8) for prime in primes]
                others = [source.randint(0, 8) for prime in primes]
                one, other = built(ring, list(zip(primes, ones))), built(ring, list(zip(primes, others)))
                for ideal, rule in (
                    (product(ring, one, other), lambda k, l: k + l), (joined(one, other), min), (meet(one, other), max),
                    (colon(ring, one, other), lambda k, l: max(0, k - l)),
                ):
                    counts = [(prime, rule(k, l)) for prime, k, l in zip(primes, ones, others)]
                    self.assertEqual(taken(ring, ideal), [row for row in counts if row[1] > 0])
