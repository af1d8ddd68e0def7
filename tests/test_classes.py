"""Points 42, 43 and 44, and of point 5 what it says of the group."""

import itertools
import math
import unittest

from ringhouse.classes import Classes
from ringhouse.errors import NotTwo, TooGreat
from ringhouse.homes import home
from ringhouse.ideals import is_ideal, made, size, whole_ring
from ringhouse.likes import alike
from ringhouse.products import product, raised
from ringhouse.ring import Ring
from tests.helper import (
    ABOVE, BELOW, GREAT_UNITS, brute_home, brute_ideals, maker, norm_of, one_table, refused, rings_of, some_ideals,
    some_number, turned,
)

# One home, cyclic groups, groups with two and three divisors, below and above 0, and the outermost measures.
KNOWN = (
    ((1, 0, 1), []), ((41, 1, 1), []), ((5, 0, 1), [2]), ((6, 1, 1), [3]), ((14, 0, 1), [4]), ((12, 1, 1), [5]),
    ((18, 1, 1), [7]), ((21, 0, 1), [2, 2]), ((30, 0, 1), [2, 2]), ((65, 0, 1), [2, 4]), ((105, 0, 1), [2, 2, 2]),
    ((390, 0, 1), [2, 2, 4]), ((499, 1, 1), [2, 2, 2]), ((101, 1, 1), None), ((498, 0, 1), None),
    ((146, 0, 1), [16]), ((161, 0, 1), [2, 8]), ((194, 0, 1), [20]), ((329, 0, 1), [2, 12]), ((74, 0, 1), [10]),
    ((-2, 0, 1), []), ((-3, 0, 1), []), ((-10, 0, 1), [2]), ((-15, 0, 1), [2]), ((-34, 0, 1), [2]),
    ((-57, 1, 1), [3]), ((-64, 1, 1), [3]), ((-79, 0, 1), [3]), ((-82, 0, 1), [4]), ((-36, 1, 1), [4]),
    ((-100, 1, 1), [5]), ((-144, 1, 1), [7]), ((-282, 1, 1), [9]), ((-130, 0, 1), [2, 2]), ((-499, 1, 1), []),
    ((-498, -2, 1), None), ((-399, 20, 1), None),
)


def known_rings():
    return [(poly, Ring(poly), due) for poly, due in KNOWN]


def reduced_forms(d):
    """How many forms (a, b, c) there are with b * b - 4 * a * c = d, below 0, each the least of its kind."""
    many = 0
    for b in range(d % 2, math.isqrt(-d // 3) + 1, 2):
        whole = (b * b - d) // 4
        for a in range(max(b, 1), math.isqrt(whole) + 1):
            if whole % a == 0:
                many += 1 if b in (0, a) or a * a == whole else 2
    return many


class Point42(unittest.TestCase):
    def test_too_great(self):
        # As c is at most 499, no ring of degree two has a measure below -1,995.
        for poly, measure in (((-498, 3, 1), 2001), ((-496, 5, 1), 2009), ((-499, 0, 1), 1996), ((-499, 1, 1), 1997)):
            if refused(Ring, poly) is None:
                self.assertEqual(Ring(poly).measure, measure)
                self.assertEqual(refused(Classes, Ring(poly)).__class__ is TooGreat, measure > 1999)
        self.assertEqual(Ring((-499, 1, 1)).measure, 1997)
        self.assertEqual(Ring((-498, 3, 1)).measure, 2001)
        self.assertEqual(Ring((499, 1, 1)).measure, -1995)
        for poly, ring in rings_of(GREAT_UNITS):
            self.assertIs(refused(Classes, ring).__class__, TooGreat)
        # Behind NotTwo: this measure would be too great.
        ring = Ring((-47, -17, 0, 1))
        self.assertGreater(abs(ring.measure), 1999)
        self.assertIs(refused(Classes, ring).__class__, NotTwo)

    def test_homes_against_a_search(self):
        for poly, ring in rings_of(BELOW[:12] + ABOVE[:12]):
            d = abs(ring.measure)
            most = math.isqrt(d // 3) if ring.measure < 0 else math.isqrt(d // 4)
            tables = [table for m in range(1, most + 1) for table in brute_ideals(poly, m)]
            self.assertEqual(Classes(ring).homes(), [table for table in tables if brute_home(poly, table) == table])

    def test_no_home_is_missing_and_each_is_its_own(self):
        for poly, ring, due in known_rings():
            homes = Classes(ring).homes()
            self.assertIs(homes.__class__, list)
            self.assertEqual(homes[0], whole_ring(ring))
            self.assertEqual(homes, sorted(homes, key=lambda table: (norm_of(table), table)))
            self.assertEqual(len(set(homes)), len(homes))
            for table in homes:
                self.assertTrue(is_ideal(ring, table))
                self.assertEqual(home(ring, table), table)
            factor = 3 if ring.measure < 0 else 4
            for a in range(1, math.isqrt(abs(ring.measure) // factor) + 1):
                for r in range(a):
                    table = ((a, 0), (r, 1))
                    if is_ideal(ring, table):
                        self.assertEqual(table in homes, home(ring, table) == table)
            for ideal in some_ideals(poly, 30):
                self.assertIn(home(ring, ideal), homes)

    def test_how_many_below_nought(self):
        for b in (0, 1):
            for c in range(1, 500):
                if refused(Ring, (c, b, 1)) is None:
                    ring = Ring((c, b, 1))
                    self.assertEqual(len(Classes(ring).homes()), reduced_forms(ring.measure), (c, b))

    def test_told_lists_are_the_askers(self):
        for poly, ring, due in known_rings()[3:9]:
            classes = Classes(ring)
            homes, divisors = classes.homes(), classes.divisors()
            kept, numbers = list(homes), list(divisors)
            homes.reverse()
            homes.pop()
            divisors.append(5)
            divisors[0] = 9
            self.assertEqual(classes.homes(), kept)
            self.assertEqual(classes.divisors(), numbers)
            for table in kept:
                self.assertEqual(classes.laid(classes.lay(table)), table)


class Point43(unittest.TestCase):
    def test_known_ones(self):
        for poly, ring, due in known_rings():
            told = Classes(ring).divisors()
            self.assertIs(told.__class__, list)
            if due is not None:
                self.assertEqual(told, due, poly)

    def test_divisors(self):
        for poly, ring, due in known_rings():
            classes = Classes(ring)
            divisors = classes.divisors()
            self.assertTrue(all(d >= 2 for d in divisors))
            for one, other in zip(divisors, divisors[1:]):
                self.assertEqual(other % one, 0)
            self.assertEqual(math.prod(divisors), len(classes.homes()))

    def test_divisors_by_how_many_homes_come_to_the_whole_ring(self):
        for poly, ring, due in known_rings():
            classes = Classes(ring)
            for k in (2, 3, 4, 5, 6, 7, 8):
                many = [table for table in classes.homes() if home(ring, raised(ring, table, k)) == whole_ring(ring)]
                self.assertEqual(len(many), math.prod([math.gcd(d, k) for d in classes.divisors()]))

    def test_all_kinds_are_there(self):
        lengths = {(ring.measure > 0, len(Classes(ring).divisors())) for poly, ring, due in known_rings()}
        self.assertEqual(lengths, {(False, 0), (False, 1), (False, 2), (False, 3), (True, 0), (True, 1), (True, 2)})


class Point44(unittest.TestCase):
    def test_lays_of_homes(self):
        for poly, ring, due in known_rings():
            classes = Classes(ring)
            divisors = classes.divisors()
            lays = [classes.lay(table) for table in classes.homes()]
            self.assertTrue(all(lay.__class__ is tuple for lay in lays))
            self.assertEqual(sorted(lays), list(itertools.product(*(range(d) for d in divisors))))
            self.assertEqual(lays[0], (0,) * len(divisors))
            for table, lay in zip(classes.homes(), lays):
                self.assertEqual(classes.laid(lay), table)

    def test_lays_of_products(self):
        for poly, ring, due in known_rings():
            classes = Classes(ring)
            divisors = classes.divisors()
            for one, other in itertools.product(some_ideals(poly, 9)[-9:], repeat=2):
                pairs = zip(classes.lay(one), classes.lay(other), divisors)
                self.assertEqual(classes.lay(product(ring, one, other)), tuple((c + d) % m for c, d, m in pairs))

    def test_alike_ones_have_the_same_lay(self):
        source = maker(44)
        for poly, ring, due in known_rings():
            classes = Classes(ring)
            for one, other in itertools.combinations(some_ideals(poly, 8), 2):
                same = classes.lay(one) == classes.lay(other)
                self.assertEqual(same, alike(ring, one, other) is not None)
            for ideal in some_ideals(poly, 12)[-3:]:
                for reach in (9, 10 ** 90):
                    x = some_number(source, 2, reach)
                    self.assertEqual(classes.lay(product(ring, made(ring, [x]), ideal)), classes.lay(ideal))
                lay = classes.lay(turned(poly, ideal))
                self.assertEqual(lay, tuple(-c % d for c, d in zip(classes.lay(ideal), classes.divisors())))

    def test_laid_of_places_of_any_size(self):
        source = maker(441)
        for poly, ring, due in known_rings():
            classes = Classes(ring)
            divisors = classes.divisors()
            for reach in (1, 9, 1000, 10 ** 100 - 1):
                for time in range(3):
                    places = tuple(source.randint(-reach, reach) for d in divisors)
                    table = classes.laid(places)
                    self.assertIn(table, classes.homes())
                    self.assertEqual(classes.lay(table), tuple(c % d for c, d in zip(places, divisors)))
            self.assertEqual(classes.laid((0,) * len(divisors)), whole_ring(ring))
            self.assertEqual(classes.laid(tuple(-d for d in divisors)), whole_ring(ring))

    def test_great_norms(self):
        source = maker(442)
        for poly, ring, due in known_rings():
            classes = Classes(ring)
            for ideal in some_ideals(poly, 12)[-2:]:
                great = product(ring, made(ring, [some_number(source, 2, 10 ** 240)]), ideal)
                self.assertGreater(size(great), 10 ** 400)
                self.assertEqual(classes.lay(great), classes.lay(ideal))

    def test_one_object_keeps_to_one_laying(self):
        for poly, ring, due in known_rings()[5:12]:
            classes, other = Classes(ring), Classes(Ring(poly))
            before = [classes.lay(table) for table in classes.homes()]
            for table in reversed(other.homes()):
                other.lay(table)
                classes.laid(classes.lay(table))
            classes.divisors().clear()
            classes.homes().clear()
            self.assertEqual([classes.lay(table) for table in other.homes()], before)
            self.assertEqual(classes.divisors(), other.divisors())

    def test_two_rings_side_by_side(self):
        one, other = Classes(Ring((6, 1, 1))), Classes(Ring((-10, 0, 1)))
        for time in range(2):
            self.assertEqual(one.divisors(), [3])
            self.assertEqual(other.divisors(), [2])
            self.assertEqual(one.lay(one_table(2, 3)), (0,))
            self.assertEqual(other.laid((1,)), ((2, 0), (0, 1)))
            self.assertEqual({one.laid((1,)), one.laid((2,))}, {((2, 0), (0, 1)), ((2, 0), (1, 1))})
