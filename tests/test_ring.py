"""Points 5, 15, 16 and 17."""

import itertools
import unittest

from ringhouse.errors import FallsApart, NoPolynomial, NotWhole, TooGreat
from ringhouse.measure import measure
from ringhouse.numbers import times
from ringhouse.papers import papers
from ringhouse.polys import poly_parted
from ringhouse.ring import Ring
from ringhouse.split import split_by
from ringhouse.whole import small_primes
from tests.helper import RINGS, brute_is_whole, brute_outside, brute_product, maker, refused


class Point16(unittest.TestCase):
    def check_not_whole(self, poly):
        refusal = refused(Ring, poly)
        self.assertIs(refusal.__class__, NotWhole, poly)
        p, x = refusal.prime, refusal.number
        self.assertIn(p, small_primes())
        self.assertIs(x.__class__, tuple)
        self.assertEqual(len(x), len(poly) - 1)
        self.assertTrue(all(0 <= c < p for c in x))
        self.assertTrue(any(x))
        self.assertTrue(brute_is_whole(poly, p, x), (poly, p, x))
        return refusal

    def test_fields(self):
        for poly in RINGS:
            ring = Ring(poly)
            self.assertEqual(ring.poly, poly)
            self.assertEqual(ring.degree, len(poly) - 1)
            self.assertEqual(ring.measure, measure(poly))

    def test_order_of_the_refusals(self):
        # No polynomial, though it falls apart, and its measure is too great.
        self.assertIs(refused(Ring, (0, 500, 1)).__class__, NoPolynomial)
        # Falls apart, though the measure is too great: also where it is 0.
        self.assertIs(refused(Ring, (0, 499, 1)).__class__, FallsApart)
        self.assertIs(refused(Ring, (0, 0, 1)).__class__, FallsApart)
        self.assertIs(refused(Ring, (-34, 13, 0, 1)).__class__, FallsApart)
        # Too great, though the ring is not whole.
        for poly in ((-496, 496, 1), (81, 0, 0, 1), (32, 0, 0, 0, 1)):
            self.assertGreater(abs(measure(poly)), 39999)
            self.assertIs(refused(Ring, poly).__class__, TooGreat, poly)

    def test_falls_apart_tells_both(self):
        for left, right in (
            ((1, 1), (-1, 1)), ((0, 1), (0, 1)), ((3, 1), (1, 0, 1)), ((-2, 1), (5, 1, 0, 1)),
            ((1, 0, 1), (1, 0, 1)), ((3, 1, 1), (7, -2, 1)),
        ):
            poly = brute_product(left, right)
            refusal = refused(Ring, poly)
            self.assertIs(refusal.__class__, FallsApart)
            self.assertEqual(brute_product(refusal.left, refusal.right), poly)
            for row in (refusal.left, refusal.right):
                self.assertGreaterEqual(len(row), 2)
                self.assertEqual(row[-1], 1)

    def test_measures_about_the_bound(self):
        within = {
            (-99, 199, 1): 39997, (-47, -17, 0, 1): -39991, (-198, -65, 0, 1): 39992,
            (15, -12, -4, 2, 1): -39984,
        }
        for poly, size in within.items():
            self.assertEqual(Ring(poly).measure, size)
        beyond = {
            (-100, 199, 1): 40001, (82, -29, -1, 1): -40019, (-25, -30, -9, 2, 1): -40000,
        }
        for poly, size in beyond.items():
            self.assertEqual(measure(poly), size)
            self.assertIs(refused(Ring, poly).__class__, TooGreat)
        # Within, but not whole: the bound comes ahead.
        self.assertEqual(measure((357, -89, -1, 1)), -39984)
        self.check_not_whole((357, -89, -1, 1))

    def test_not_whole_in_each_degree(self):
        for poly in (
            (3, 0, 1), (-5, 0, 1), (27, 0, 1), (-495, 0, 1), (-99, 0, 1), (-98, 0, 1),
            (-10, 0, 0, 1), (-8, -2, -1, 1), (-12, 0, 0, 1), (-3, 1, -4, 1),
            (3, 0, 0, 0, 1), (-5, 0, 0, 0, 1), (4, 0, 2, 0, 1), (-3, -3, -2, -2, 1),
            (-1, -3, 3, 1, 1), (3, -3, -4, 4, 1),
        ):
            self.check_not_whole(poly)

    def test_great_primes(self):
        # The measure is 5 * 89 * 89.
        self.assertEqual(self.check_not_whole((-1, 199, 1)).prime, 89)
        # The measure is 163 * 163, and the ring is whole.
        self.assertEqual([p for p, parts in papers(Ring((-1, -14, -11, 1)))], [163])

    def test_against_all_quotients(self):
        reach = {2: 20, 3: 4, 4: 2}
        greatest = {2: 5, 3: 5, 4: 3}
        source = maker(16)
        for degree in (2, 3, 4):
            rows = list(itertools.product(range(-reach[degree], reach[degree] + 1), repeat=degree))
            source.shuffle(rows)
            for row in rows[:160]:
                poly = row + (1,)
                refusal = refused(Ring, poly)
                if refusal.__class__ is FallsApart or refusal.__class__ is TooGreat:
                    continue
                square = [p for p in small_primes() if measure(poly) % (p * p) == 0]
                if any(p > greatest[degree] for p in square):
                    continue
                outside = {p: brute_outside(poly, p) for p in square}
                if refusal is None:
                    self.assertFalse(any(outside.values()), poly)
                else:
                    self.check_not_whole(poly)
                    self.assertIn(refusal.number, outside[refusal.prime])

    def test_no_prime_whose_square_does_not_divide_the_measure(self):
        for poly in ((1, 0, 1), (1, -1, 0, 1), (-1, -1, 0, 0, 1)):
            for p in (2, 3, 5)[: 6 - len(poly)]:
                self.assertEqual(brute_outside(poly, p), [])

    def test_written_refusals(self):
        refusal = refused(Ring, (-1, 0, 1))
        self.assertEqual({refusal.left, refusal.right}, {(1, 1), (-1, 1)})
        refusal = refused(Ring, (3, 0, 1))
        self.assertEqual((refusal.prime, refusal.number), (2, (1, 1)))

    def test_refused_ones_may_be_asked_again(self):
        for poly in ((1, 2), (-1, 0, 1), (-100, 199, 1), (3, 0, 1)):
            kinds = {refused(Ring, poly).__class__ for time in range(3)}
            self.assertEqual(len(kinds), 1)
            self.assertEqual(Ring((1, 0, 1)).measure, -4)

    def test_two_rings_of_one_polynomial(self):
        for poly in RINGS:
            one, other = Ring(poly), Ring(poly)
            self.assertEqual(
                (one.poly, one.degree, one.measure, papers(one)),
                (other.poly, other.degree, other.measure, papers(other)),
            )
            x = tuple(range(2, 2 + one.degree))
            self.assertEqual(times(one, x, x), times(other, x, x))

    def test_one_of_four_things(self):
        source = maker(5)
        seen = set()
        for time in range(1500):
            degree = source.choice((2, 3, 4))
            reach = source.choice((2, 5, 30, 499))
            poly = tuple(source.randint(-reach, reach) for i in range(degree)) + (1,)
            refusal = refused(Ring, poly)
            seen.add(refusal.__class__)
            if refusal.__class__ is FallsApart:
                self.assertEqual(brute_product(refusal.left, refusal.right), poly)
            elif refusal.__class__ is NotWhole:
                self.check_not_whole(poly)
            elif refusal.__class__ is TooGreat:
                self.assertGreater(abs(measure(poly)), 39999)
            else:
                self.assertIsNone(refusal)
        self.assertEqual(seen, {FallsApart, NotWhole, TooGreat, None.__class__})


class Point17(unittest.TestCase):
    def check(self, poly):
        told = papers(Ring(poly))
        size = measure(poly)
        self.assertIs(told.__class__, list)
        self.assertEqual([p for p, parts in told], [p for p in small_primes() if size % (p * p) == 0])
        for p, parts in told:
            self.assertIs(parts.__class__, list)
            self.assertEqual([(g, often) for g, often, rest in parts], split_by(poly, p))
            for g, often, rest in parts:
                self.assertEqual(rest, poly_parted(poly, g)[1])
                self.assertTrue(rest == () or rest[-1] != 0)
                if often >= 2:
                    self.assertTrue(any(c % (p * p) != 0 for c in rest))
        return told

    def test_all_sorts(self):
        for poly in RINGS:
            self.check(poly)

    def test_no_papers(self):
        for poly in ((-1, 1, 1), (1, -1, 0, 1), (-1, -1, 0, 0, 1)):
            self.assertEqual(papers(Ring(poly)), [])

    def test_one_prime(self):
        self.assertEqual(papers(Ring((1, 0, 1))), [(2, [((1, 1), 2, (2,))])])
        self.assertEqual(papers(Ring((-2, 0, 1))), [(2, [((0, 1), 2, (-2,))])])
        self.assertEqual(papers(Ring((1, 1, 1, 1, 1))), [(5, [((4, 1), 4, (205,))])])

    def test_several_primes(self):
        self.assertEqual(
            papers(Ring((-2, 0, 0, 1))), [(2, [((0, 1), 3, (-2,))]), (3, [((1, 1), 3, (-3,))])]
        )
        self.assertEqual([p for p, parts in self.check((-6, 0, 0, 1))], [2, 3])

    def test_parts_of_degree_two(self):
        found = 0
        for row in itertools.product(range(-3, 4), repeat=4):
            poly = row + (1,)
            if refused(Ring, poly) is None:
                for p, parts in papers(Ring(poly)):
                    for g, often, rest in parts:
                        if len(g) == 3 and often == 2:
                            found += 1
                            self.check(poly)
        self.assertGreater(found, 0)

    def test_part_with_the_rest_nought(self):
        found = 0
        for poly in itertools.product(range(-6, 7), repeat=3):
            if refused(Ring, poly + (1,)) is None:
                for p, parts in self.check(poly + (1,)):
                    # A rest by a part that stands there once may well be 0 modulo the square.
                    found += sum(1 for g, often, rest in parts if often == 1 and all(c % (p * p) == 0 for c in rest))
        self.assertGreater(found, 0)

    def test_told_lists_are_the_askers_own(self):
        ring = Ring((-2, 0, 0, 1))
        due = [(2, [((0, 1), 3, (-2,))]), (3, [((1, 1), 3, (-3,))])]
        held = papers(ring)
        other = papers(ring)
        held[0][1].clear()
        held.pop()
        self.assertEqual(other, due)
        self.assertEqual(papers(ring), due)
        self.assertEqual(papers(Ring((-2, 0, 0, 1))), due)
