"""Points 49 and 50."""

import itertools
import unittest

from ringhouse.apart import apart
from ringhouse.looker import sees_apart, sees_outside, sees_split, sees_whole
from ringhouse.papers import papers
from ringhouse.polys import poly_times
from ringhouse.ring import Ring
from ringhouse.split import split_by
from tests.helper import RINGS, brute_is_whole, brute_outside, maker, refused

# No ring's polynomials: too short, too long, not monic, places too great, nought.
NO_POLYS = (
    (), (1,), (1, 1), (1, 0, 0, 0, 0, 1), (1, 0, 2), (1, 0, -1), (500, 0, 1), (0, -500, 1), (1, 0, 0), (0, 0, 0),
    (10 ** 1999, 0, 1), (1, 0, 10 ** 1999), (2,) * 50,
)
GREAT = 10 ** 2000 - 1
PRODUCTS = (
    ((-1, 1), (1, 1)), ((2, 1), (0, 1)), ((1, 0, 1), (3, 1)), ((-7, 1), (-2, 0, 1)), ((1, 1, 1), (2, -1, 1)),
    ((5, 1), (1, 0, 0, 1)), ((1, 0, 1), (1, 0, 1)),
)
NO_PRIMES = (-2, -1, 0, 1, 4, 6, 9, 15, 121, 198, 200, 201, 211, 10 ** 1999, -GREAT)


class Point50Apart(unittest.TestCase):
    def test_what_apart_tells(self):
        for left, right in PRODUCTS:
            poly = poly_times(left, right)
            self.assertIs(sees_apart(poly, left, right), True)
            self.assertIs(sees_apart(poly, right, left), True)
            self.assertIs(sees_apart(poly, *apart(poly)), True)

    def test_one_place_changed(self):
        for left, right in PRODUCTS:
            poly = poly_times(left, right)
            for at in range(len(left)):
                for change in (1, -1, 10 ** 1999):
                    other = left[:at] + (left[at] + change,) + left[at + 1:]
                    self.assertIs(sees_apart(poly, other, right), False)
                    self.assertIs(sees_apart(poly, right, other), False)
            for at in range(len(poly)):
                other = poly[:at] + (poly[at] + 1,) + poly[at + 1:]
                self.assertIs(sees_apart(other, left, right), False)

    def test_factors_that_are_none(self):
        poly = (-1, 0, 1)
        for left, right in (
            ((1,), poly), (poly, (1,)), ((), poly), (poly, ()), ((), ()), ((1, -1), (-1, -1)), ((-1, 1, 0), (1, 1)),
            ((-1, 1), (1, 1, 0)), ((-1, 1), (1,)), ((-1, 1), (-1, 1)), ((0, 1), (0, 1)), ((-2, 2), (1, 1)),
            ((GREAT, 1), (GREAT, 1)), ((1,) * 3000, (1,) * 3000), ((-1, 1), (1,) * 5000),
        ):
            self.assertIs(sees_apart(poly, left, right), False, (left[:9], right[:9]))

    def test_no_ring_poly(self):
        for left, right in (((1, 1), (1,)), ((0, 1), (-500, 1)), ((1, 0, 1), (1, 0, 0, 1)), ((1, 1), (500, 1))):
            self.assertIs(sees_apart(poly_times(left, right), left, right), False)
        for poly in NO_POLYS:
            self.assertIs(sees_apart(poly, (1, 1), (1, 1)), False)
            self.assertIs(sees_apart(poly, (), ()), False)
        # 499 is within the bound.
        self.assertIs(sees_apart((0, 499, 1), (0, 1), (499, 1)), True)


def changed_lists(parts, more):
    """Lists that differ from a list of parts by one thing left out, twice, or more."""
    yield parts + [more]
    yield [more] + parts
    for at in range(len(parts)):
        yield parts[:at] + parts[at + 1:]
        yield parts + [parts[at]]
        yield parts[:at] + [more] + parts[at + 1:]


def orders(parts):
    return [list(order) for order in itertools.permutations(parts)]


class Point50Split(unittest.TestCase):
    def test_what_split_by_tells_in_any_order(self):
        for poly in RINGS + ((0, 0, 1), (-1, 0, 1), (1, 2, 1), (499, 499, 499, 499, 1)):
            for p in (2, 3, 5, 7, 13, 101, 199):
                for order in orders(split_by(poly, p)):
                    kept = list(order)
                    self.assertIs(sees_split(poly, p, order), True)
                    self.assertEqual(order, kept)

    def test_one_thing_changed(self):
        for poly in RINGS:
            for p in (2, 3, 5, 11):
                parts = split_by(poly, p)
                for other in changed_lists(parts, ((1, 1, 1, 1, 1, 1), 1)):
                    self.assertIs(sees_split(poly, p, other), False)
                for at, (g, often) in enumerate(parts):
                    for row in (
                        (g, often + 1), (g, often - 1), (g, 0), (g, -often), (g, GREAT), (g[:-1], often),
                        (g + (0,), often), ((), often), ((g[0] + p,) + g[1:], often), ((g[0] - p,) + g[1:], often),
                        ((g[0] + GREAT,) + g[1:], often), (tuple(-c for c in g), often), (g[:-1] + (2,), often),
                    ):
                        self.assertIs(sees_split(poly, p, parts[:at] + [row] + parts[at + 1:]), False, row)

    def test_parts_that_do_not_stay(self):
        # (x + 1) ** 2 modulo 2, told as a part that does not stay, or as one that stands twice.
        self.assertIs(sees_split((1, 0, 1), 2, [((1, 1), 2)]), True)
        self.assertIs(sees_split((1, 0, 1), 2, [((1, 0, 1), 1)]), False)
        self.assertIs(sees_split((1, 0, 1), 2, [((1, 1), 1), ((1, 1), 1)]), False)
        self.assertIs(sees_split((1, 0, 1), 2, []), False)
        # One part of the degree 0 more changes no product, and is none all the same.
        self.assertIs(sees_split((1, 0, 1), 2, [((1, 1), 2), ((1,), 1)]), False)

    def test_another_prime(self):
        for poly in RINGS:
            for p, q in itertools.permutations((2, 3, 5, 7), 2):
                parts = split_by(poly, p)
                self.assertIs(sees_split(poly, q, parts), sorted(parts) == sorted(split_by(poly, q)))
            for p in NO_PRIMES:
                self.assertIs(sees_split(poly, p, split_by(poly, 2)), False)
                self.assertIs(sees_split(poly, p, []), False)

    def test_no_ring_poly(self):
        for poly in NO_POLYS:
            for parts in ([], [((1, 1), 2)], [(poly, 1)]):
                self.assertIs(sees_split(poly, 2, parts), False)
        self.assertIs(sees_split((1, 1), 2, [((1, 1), 1)]), False)
        self.assertIs(sees_split((501, 0, 1), 2, [((1, 1), 2)]), False)

    def test_long_lists(self):
        self.assertIs(sees_split((1, 0, 1), 2, [((1, 1), 2)] * 20000), False)
        self.assertIs(sees_split((1, 0, 1), 2, [((k, 1), 1) for k in range(20000)]), False)


OUTSIDE = (
    ((-5, 0, 1), 2, (1, 1)), ((3, 0, 1), 2, (1, 1)), ((-45, 0, 1), 3, (0, 1)), ((-499, -499, 499, 1), 2, None),
    ((-4, 0, 0, 1), 2, (0, 0, 1)), ((8, 0, 0, 0, 1), 2, (0, 0, 0, 1)), ((-10, 0, 0, 1), 3, (1, 1, 1)),
    ((-12, 0, 0, 1), 2, (0, 0, 1)), ((8, 0, 0, 0, 1), 2, (0, 0, 1, 0)),
)


class Point50Outside(unittest.TestCase):
    def test_what_is_outside(self):
        for poly, p, x in OUTSIDE:
            for y in brute_outside(poly, p):
                self.assertIs(sees_outside(poly, p, y), True, (poly, p, y))
            if x is not None:
                self.assertIs(sees_outside(poly, p, x), True, (poly, p, x))

    def test_what_rings_refuse(self):
        found = 0
        for poly in itertools.product(range(-9, 10, 3), range(-4, 5), (0, 1, 4), (1,)):
            refusal = refused(Ring, poly)
            if refusal.__class__.__name__ == "NotWhole":
                found += 1
                self.assertIs(sees_outside(poly, refusal.prime, refusal.number), True)
        self.assertGreater(found, 5)

    def test_against_a_search(self):
        for poly in RINGS + tuple(row[0] for row in OUTSIDE):
            for p in (2, 3):
                due = brute_outside(poly, p)
                for x in itertools.product(range(p), repeat=len(poly) - 1):
                    self.assertIs(sees_outside(poly, p, x), x in due, (poly, p, x))

    def test_multiples_of_p_added_and_great_places(self):
        source = maker(50)
        for poly, p, x in OUTSIDE:
            for y in brute_outside(poly, p)[:3]:
                for reach in (3, 10 ** 1990):
                    more = tuple(c + p * source.randint(-reach, reach) for c in y)
                    self.assertIs(sees_outside(poly, p, more), True)
            self.assertIs(sees_outside(poly, p, tuple(p * source.randint(-9, 9) for c in poly[1:])), False)
            self.assertIs(sees_outside(poly, p, (0,) * (len(poly) - 1)), False)
            great = tuple(source.randint(-GREAT, GREAT) for c in poly[1:])
            due = any(c % p for c in great) and brute_is_whole(poly, p, tuple(c % p for c in great))
            self.assertIs(sees_outside(poly, p, great), due)

    def test_other_lengths(self):
        for poly, p, x in OUTSIDE:
            for y in brute_outside(poly, p)[:3]:
                for other in (y[:-1], y + (0,), (), y + y, (1,), (1,) * 5000):
                    if len(other) != len(poly) - 1:
                        self.assertIs(sees_outside(poly, p, other), False)

    def test_measures_that_are_too_great_for_a_ring(self):
        poly = (-499, 0, 0, 0, 1)
        self.assertEqual(refused(Ring, poly).__class__.__name__, "TooGreat")
        self.assertTrue(brute_outside(poly, 2) == [] or sees_outside(poly, 2, brute_outside(poly, 2)[0]))
        poly = (-492, 0, 0, 1)
        self.assertEqual(refused(Ring, poly).__class__.__name__, "TooGreat")
        self.assertIs(sees_outside(poly, 2, (0, 0, 1)), True)
        self.assertIs(sees_outside(poly, 2, (0, 1, 0)), False)

    def test_polys_that_fall_apart(self):
        for poly, p, x in (
            ((-1, 0, 1), 2, (1, 1)), ((-4, 0, 1), 2, (0, 1)), ((0, -4, 0, 1), 2, (0, 0, 1)), ((0, 0, 1), 2, (0, 1)),
        ):
            self.assertTrue(brute_is_whole(poly, p, x))
            self.assertIs(sees_outside(poly, p, x), False)

    def test_wrong_primes_and_polys(self):
        for p in NO_PRIMES:
            self.assertIs(sees_outside((-5, 0, 1), p, (1, 1)), False)
            self.assertIs(sees_outside((-5, 0, 1), p, (p // 2, p // 2)), False)
        self.assertIs(sees_outside((-5, 0, 1), 3, (1, 1)), False)
        # (0, 2) / 4 is whole: but 4 is no small prime.
        self.assertIs(sees_outside((-20, 0, 1), 4, (2, 1)), False)
        for poly in NO_POLYS:
            for x in ((), (1,), (1, 1), (0, 0, 1), (1,) * max(0, len(poly) - 1)):
                self.assertIs(sees_outside(poly, 2, x), False)
        self.assertIs(sees_outside((-505, 0, 1), 2, (1, 1)), False)


class Point50Whole(unittest.TestCase):
    def test_papers_in_any_order(self):
        several = 0
        for poly in RINGS + ((30, 0, 1), (-210, 0, 1), (-105, 0, 1), (-30, 0, 1), (3, 3, 3, 1)):
            if refused(Ring, poly) is not None:
                continue
            rows = papers(Ring(poly))
            several += len(rows) > 1
            for order in orders(rows):
                self.assertIs(sees_whole(poly, order), True)
                turned = [(p, parts[::-1]) for p, parts in order]
                self.assertIs(sees_whole(poly, turned), True)
        self.assertGreater(several, 1)

    def test_one_thing_changed(self):
        for poly in RINGS:
            rows = papers(Ring(poly))
            for other in changed_lists(rows, (199, [])):
                self.assertIs(sees_whole(poly, other), False)
            for at, (p, parts) in enumerate(rows):
                ahead, behind = rows[:at], rows[at + 1:]
                for q in (p + 1, -p, 0, 1, 199, GREAT):
                    self.assertIs(sees_whole(poly, ahead + [(q, parts)] + behind), False)
                for other in changed_lists(parts, ((1, 1), 1, ())):
                    self.assertIs(sees_whole(poly, ahead + [(p, other)] + behind), False)
                self.assertIs(sees_whole(poly, ahead + [(p, [])] + behind), False)
                for spot, (g, often, rest) in enumerate(parts):
                    for part in (
                        (g, often + 1, rest), (g, 0, rest), (g, -often, rest), (g, often, rest + (0,)),
                        (g + (0,), often, rest), (g, often, (1,) + rest[1:] + (1,)), ((), often, rest),
                        (g, often, rest[:-1] if rest else (0,)),
                        ((g[0] + p,) + g[1:], often, rest), (g, GREAT, rest), (g, often, (GREAT,)), (rest, often, g),
                        (g, often, tuple(c % p for c in rest) + (0,)),
                    ):
                        other = parts[:spot] + [part] + parts[spot + 1:]
                        self.assertIs(sees_whole(poly, ahead + [(p, other)] + behind), False, part)

    def test_the_right_rest_is_that_of_whole_places(self):
        poly = (5, 0, 1)
        self.assertEqual(papers(Ring(poly)), [(2, [((1, 1), 2, (6,))])])
        self.assertIs(sees_whole(poly, [(2, [((1, 1), 2, (6,))])]), True)
        for rest in ((0,), (), (2,), (10,), (6, 0), (-6,)):
            self.assertIs(sees_whole(poly, [(2, [((1, 1), 2, rest)])]), False)

    def test_rings_without_papers(self):
        for poly in ((-1, 1, 1), (1, 1, 1), (-1, -1, 0, 1)):
            self.assertIs(sees_whole(poly, []), True)
            self.assertIs(sees_whole(poly, [(2, [])]), False)
            self.assertIs(sees_whole(poly, [(2, [(g, often, ()) for g, often in split_by(poly, 2)])]), False)
        self.assertIs(sees_whole((5, 0, 1), []), False)

    def test_what_ring_refuses(self):
        for poly in NO_POLYS + (
            (-1, 0, 1), (0, 0, 1), (-4, 0, 5, 0, 1), (-5, 0, 1), (3, 0, 1), (8, 0, 0, 0, 1), (-4, 0, 0, 1),
            (-499, 0, 0, 0, 1), (-499, 0, 0, 1), (499, 499, 1),
        ):
            self.assertIsNotNone(refused(Ring, poly))
            for rows in ([], [(2, [((1, 1), 2, (-4,))])], [(2, [])], [(2, [((1, 1), 2, (4,))])]):
                self.assertIs(sees_whole(poly, rows), False)

    def test_lists_stay_as_they_were(self):
        rows = papers(Ring((-198, -65, 0, 1)))[::-1]
        kept = [(p, list(parts)) for p, parts in rows]
        sees_whole((-198, -65, 0, 1), rows)
        self.assertEqual(rows, kept)
