"""Points 52 to 58."""

import functools
import itertools
import unittest

from ringhouse.above import above
from ringhouse.errors import Beyond, TooGreat
from ringhouse.homes import home
from ringhouse.ideals import made, size, whole_ring
from ringhouse.looks import sees_prime
from ringhouse.products import product, raised
from ringhouse.reach import Reach
from ringhouse.ring import Ring
from ringhouse.taken import built, often, taken
from ringhouse.whole import small_primes
from tests.helper import (
    RINGS, brute_in_sums, brute_norm, brute_often, maker, norm_of, one_table, refused, some_ideals, whole,
)

BOXES = {2: 4, 3: 2, 4: 1}


@functools.lru_cache(maxsize=None)
def ring_of(poly):
    return Ring(poly)


@functools.lru_cache(maxsize=None)
def reach_of(poly, top, box):
    return Reach(Ring(poly), top, box)


def reaches(tops=(0, 1, 2, 5, 11, 29)):
    """Rings with reaches, of all greatest boxes and some lesser ones."""
    for poly in RINGS:
        most = BOXES[len(poly) - 1]
        for at, top in enumerate(tops):
            box = most if at % 2 else most // 2
            yield poly, ring_of(poly), reach_of(poly, top, box), top, box
        yield poly, ring_of(poly), reach_of(poly, 29, 0), 29, 0


def times_of(ring, reach, ideal):
    return tuple(often(ring, prime, ideal) for prime in reach.told())


@functools.lru_cache(maxsize=None)
def heap_times(ring, reach):
    return tuple(times_of(ring, reach, made(ring, [x])) for x in reach.heap())


def some_within(source, ring, reach, most=4):
    """An ideal within the reach."""
    return built(ring, [(prime, source.randint(0, most)) for prime in reach.told()])


class Point52(unittest.TestCase):
    def test_bounds(self):
        for poly in RINGS:
            ring = Ring(poly)
            most = BOXES[ring.degree]
            for top, box in ((30, 0), (30, most), (0, most + 1), (29, most + 1), (10 ** 90, 0), (0, 10 ** 90)):
                self.assertIs(refused(Reach, ring, top, box).__class__, TooGreat)
            for top, box in ((0, 0), (1, 0), (29, 0), (0, most), (29, most)):
                Reach(ring, top, box)

    def test_primes(self):
        for poly, ring, reach, top, box in reaches():
            due = []
            for p in small_primes():
                due += [prime for prime, many, degree in above(ring, p) if p ** degree <= top]
            told = reach.told()
            self.assertIs(told.__class__, list)
            self.assertEqual(told, due)

    def test_primes_by_their_norms(self):
        for poly, ring, reach, top, box in reaches((0, 1, 2, 3, 4, 8, 9, 16)):
            due = [table for table in some_ideals(poly, min(top, 16)) if sees_prime(ring, table)]
            self.assertEqual(sorted(table for table in reach.told() if norm_of(table) <= 16), sorted(due))

    def test_known_ones(self):
        ring = Ring((-2, 0, 0, 1))
        five = [row[0] for row in above(ring, 5)]
        self.assertEqual([size(prime) for prime in five], [5, 25])
        self.assertEqual(Reach(ring, 5, 0).told()[-1:], five[:1])
        self.assertEqual(Reach(ring, 24, 0).told().count(five[1]), 0)
        # By the small primes first: the norm 25 stands ahead of 11.
        told = Reach(ring, 25, 0).told()
        self.assertEqual(told[told.index(five[0]) + 1], five[1])
        self.assertIn(11, [size(prime) for prime in told[told.index(five[1]):]])
        self.assertEqual(Reach(ring, 1, 2).told(), [])
        self.assertEqual(Reach(ring, 0, 2).told(), [])


class Point53(unittest.TestCase):
    def test_beyond(self):
        for poly, ring, reach, top, box in reaches():
            n = ring.degree
            primes = reach.told()
            far = [prime for p in (2, 3, 29, 31) for prime, many, degree in above(ring, p) if prime not in primes]
            within = built(ring, [(prime, 2) for prime in primes])
            ideals = far + [product(ring, prime, within) for prime in far] + [one_table(n, 211), one_table(n, 31)]
            ideals.append(product(ring, within, one_table(n, 10 ** 40 + 121)))
            for ideal in ideals:
                self.assertIs(refused(reach.lay, ideal).__class__, Beyond)
                self.assertIs(refused(reach.way, ideal, whole_ring(ring)).__class__, Beyond)
                self.assertIs(refused(reach.way, whole_ring(ring), ideal).__class__, Beyond)
                self.assertIs(refused(reach.way, within, ideal).__class__, Beyond)
                self.assertIs(refused(reach.way, ideal, ideal).__class__, Beyond)
            # What was refused changes nothing.
            self.assertEqual(reach.way(within, within), [])

    def test_the_whole_ring_is_within(self):
        for poly, ring, reach, top, box in reaches():
            self.assertEqual(reach.lay(whole_ring(ring)), (0,) * len(reach.divisors()))
            self.assertEqual(reach.way(whole_ring(ring), whole_ring(ring)), [])

    def test_all_small_ideals(self):
        for poly, ring, reach, top, box in reaches((1, 2, 3, 7)):
            for ideal in some_ideals(poly):
                within = all(prime in reach.told() for prime, many in taken(ring, ideal))
                self.assertEqual(refused(reach.lay, ideal) is None, within)

    def test_great_norms(self):
        for poly, ring, reach, top, box in reaches((2, 29)):
            for prime in reach.told()[:3]:
                great = built(ring, [(prime, 200)] * 2)
                lay = reach.lay(prime)
                due = tuple(400 * c % d if d else 400 * c for c, d in zip(lay, reach.divisors()))
                self.assertEqual(reach.lay(great), due)
                self.assertIs(refused(reach.lay, product(ring, great, one_table(ring.degree, 31))).__class__, Beyond)


class Point54(unittest.TestCase):
    def test_against_a_search(self):
        for poly, ring, reach, top, box in reaches():
            n = ring.degree
            rows = set(itertools.product(range(-box, box + 1), repeat=n)) | {whole(n, k) for k in range(1, top + 1)}
            due = []
            for x in sorted(rows):
                last = [c for c in x if c != 0][-1:]
                if last and last[0] > 0 and self.is_within(ring, reach, x):
                    due.append(x)
            told = reach.heap()
            self.assertIs(told.__class__, list)
            self.assertEqual(told, due)

    def is_within(self, ring, reach, x):
        """By the norm, and by the primes that go into it."""
        left = abs(brute_norm(ring.poly, x))
        for prime in reach.told():
            left //= norm_of(prime) ** brute_often(ring.poly, prime, made(ring, [x]))
        return left == 1

    def test_box_nought(self):
        for poly in RINGS:
            ring = Ring(poly)
            n = ring.degree
            self.assertEqual(Reach(ring, 0, 0).heap(), [])
            self.assertEqual(Reach(ring, 1, 0).heap(), [whole(n, 1)])
            for x in Reach(ring, 29, 0).heap():
                self.assertEqual(x, whole(n, x[0]))
                self.assertTrue(1 <= x[0] <= 29)

    def test_without_primes_there_are_units(self):
        for poly in RINGS:
            ring = Ring(poly)
            heap = Reach(ring, 0, BOXES[ring.degree]).heap()
            self.assertIn(whole(ring.degree, 1), heap)
            self.assertTrue(all(brute_norm(poly, x) in (1, -1) for x in heap))
        self.assertEqual(Reach(Ring((1, 0, 1)), 0, 4).heap(), [(0, 1), (1, 0)])
        self.assertEqual(Reach(Ring((-2, 0, 1)), 1, 3).heap(), [(-3, 2), (-1, 1), (1, 0), (1, 1), (3, 2)])

    def test_whole_numbers_up_to_top(self):
        ring = Ring((1, 0, 1))
        heap = Reach(ring, 29, 4).heap()
        # The prime 3 has the norm 9, the prime 7 the norm 49.
        for k in range(1, 30):
            self.assertEqual((k, 0) in heap, k % 7 != 0 and k % 11 != 0 and k % 19 != 0 and k % 23 != 0)
            self.assertNotIn((-k, 0), heap)
        self.assertNotIn((30, 0), heap)
        self.assertIn((-4, 2), heap)
        self.assertNotIn((4, -2), heap)


class Point55(unittest.TestCase):
    def test_divisors(self):
        for poly, ring, reach, top, box in reaches():
            told = reach.divisors()
            self.assertIs(told.__class__, list)
            finite = [d for d in told if d != 0]
            self.assertEqual(told, finite + [0] * (len(told) - len(finite)))
            self.assertTrue(all(d >= 2 for d in finite))
            for one, other in zip(finite, finite[1:]):
                self.assertEqual(other % one, 0)

    def test_empty_where_all_is_shut(self):
        for poly in RINGS:
            ring = Ring(poly)
            for top in (0, 1):
                reach = Reach(ring, top, 1)
                self.assertEqual(reach.divisors(), [])
                self.assertEqual(reach.lay(whole_ring(ring)), ())
                self.assertEqual(reach.laid(()), [])
        reach = Reach(Ring((-3, 0, 1)), 29, 4)
        self.assertEqual(reach.divisors(), [])
        self.assertEqual(reach.lay(reach.told()[0]), ())
        self.assertEqual(reach.laid(()), [0] * len(reach.told()))

    def test_known_ones(self):
        self.assertEqual(Reach(Ring((5, 0, 1)), 29, 4).divisors(), [2])
        self.assertEqual(Reach(Ring((-10, 0, 1)), 29, 4).divisors(), [2])
        self.assertEqual(Reach(Ring((499, 1, 1)), 29, 4).divisors(), [2, 2, 2, 0, 0])
        # Whole numbers alone: 2 is the prime twice, 3 is two primes, 7 is two primes.
        self.assertEqual(Reach(Ring((5, 0, 1)), 3, 0).divisors(), [2, 0])
        self.assertEqual(Reach(Ring((5, 0, 1)), 2, 0).divisors(), [2])
        self.assertEqual(Reach(Ring((5, 0, 1)), 7, 0).divisors(), [2, 2, 0, 0])

    def test_as_many_noughts_as_heap_rows_leave(self):
        for poly, ring, reach, top, box in reaches():
            rows = [list(row) for row in heap_times(ring, reach)]
            rank = 0
            for j in range(len(reach.told())):
                spot = next((i for i in range(rank, len(rows)) if rows[i][j] != 0), None)
                if spot is not None:
                    rows[rank], rows[spot] = rows[spot], rows[rank]
                    for i in range(rank + 1, len(rows)):
                        one, other = rows[rank][j], rows[i][j]
                        rows[i] = [one * c - other * d for c, d in zip(rows[i], rows[rank])]
                    rank += 1
            self.assertEqual(reach.divisors().count(0), len(reach.told()) - rank)


class Point57(unittest.TestCase):
    def test_lays_of_products(self):
        source = maker(57)
        for poly, ring, reach, top, box in reaches((2, 5, 29)):
            divisors = reach.divisors()
            for time in range(4):
                one, other = some_within(source, ring, reach), some_within(source, ring, reach)
                lay = reach.lay(one)
                self.assertIs(lay.__class__, tuple)
                self.assertEqual(len(lay), len(divisors))
                self.assertTrue(all(0 <= c < d for c, d in zip(lay, divisors) if d != 0))
                sums = zip(lay, reach.lay(other), divisors)
                due = tuple((c + d) % m if m else c + d for c, d, m in sums)
                self.assertEqual(reach.lay(product(ring, one, other)), due)

    def test_joined_ones_have_the_same_lay(self):
        source = maker(571)
        found = set()
        for poly, ring, reach, top, box in reaches((2, 5, 29)):
            rows = heap_times(ring, reach)
            ideals = [whole_ring(ring)] + reach.told()[:3] + [some_within(source, ring, reach, 2) for time in range(2)]
            ideals += [product(ring, made(ring, [x]), ideals[-1]) for x in reach.heap()[:1]]
            times = {ideal: times_of(ring, reach, ideal) for ideal in ideals}
            for one, other in itertools.combinations(ideals, 2):
                due = brute_in_sums(rows, [c - d for c, d in zip(times[one], times[other])])
                found.add(due)
                self.assertEqual(reach.lay(one) == reach.lay(other), due)
                self.assertEqual(reach.way(one, other) is not None, due)
                if due and ring.degree == 2:
                    self.assertEqual(home(ring, one), home(ring, other))
        self.assertEqual(found, {True, False})

    def test_laid(self):
        source = maker(572)
        for poly, ring, reach, top, box in reaches():
            divisors, primes = reach.divisors(), reach.told()
            lays = [reach.lay(prime) for prime in primes]
            for size_of in (0, 1, 5, 1000, 10 ** 100 - 1):
                places = tuple(source.randint(-size_of, size_of) for d in divisors)
                told = reach.laid(places)
                self.assertIs(told.__class__, list)
                self.assertEqual(len(told), len(primes))
                for j, d in enumerate(divisors):
                    gap = sum(many * lay[j] for many, lay in zip(told, lays)) - places[j]
                    self.assertTrue(gap % d == 0 if d else gap == 0)

    def test_laid_of_lays_from_nought_on(self):
        source = maker(573)
        for poly, ring, reach, top, box in reaches((5, 29)):
            for time in range(3):
                ideal = some_within(source, ring, reach, 3)
                told = reach.laid(reach.lay(ideal))
                up = built(ring, [(prime, many) for prime, many in zip(reach.told(), told) if 0 < many <= 240])
                down = built(ring, [(prime, -many) for prime, many in zip(reach.told(), told) if -240 <= many < 0])
                if max(abs(many) for many in told + [0]) <= 240:
                    self.assertEqual(reach.lay(product(ring, ideal, down)), reach.lay(up))

    def test_one_object_keeps_to_one_laying(self):
        for poly, ring, reach, top, box in reaches((7,)):
            other = Reach(Ring(poly), top, box)
            before = [reach.lay(prime) for prime in reach.told()]
            for told in (reach.told(), reach.heap(), reach.divisors(), reach.laid((1,) * len(reach.divisors()))):
                told.reverse()
                told.append(7)
                told.clear()
            for prime in reversed(other.told()):
                other.lay(prime)
                reach.way(prime, prime)
            self.assertEqual([reach.lay(prime) for prime in other.told()], before)
            self.assertEqual(reach.told(), other.told())
            self.assertEqual(reach.heap(), other.heap())
            self.assertEqual(reach.divisors(), other.divisors())

    def test_two_reaches_side_by_side(self):
        one, other = Reach(Ring((5, 0, 1)), 7, 1), Reach(Ring((-2, 0, 0, 1)), 7, 1)
        low = Reach(Ring((5, 0, 1)), 2, 0)
        for time in range(2):
            self.assertEqual(len(one.told()), 6)
            self.assertEqual([size(prime) for prime in other.told()], [2, 3, 5])
            self.assertEqual(low.lay(((2, 0), (1, 1))), (1,))
            self.assertIs(refused(low.lay, ((3, 0), (1, 1))).__class__, Beyond)
            self.assertEqual(len(one.lay(((3, 0), (1, 1)))), len(one.divisors()))


class Point58(unittest.TestCase):
    def check_way(self, ring, reach, one, other):
        told = reach.way(one, other)
        self.assertIs(told.__class__, list)
        numbers = [x for x, many in told]
        self.assertTrue(all(row.__class__ is tuple and len(row) == 2 for row in told))
        self.assertEqual(len(set(numbers)), len(numbers))
        self.assertTrue(all(x in reach.heap() for x in numbers))
        self.assertTrue(all(many != 0 for x, many in told))
        total = [0] * len(reach.told())
        for x, many in told:
            total = [c + many * d for c, d in zip(total, times_of(ring, reach, made(ring, [x])))]
        gap = [c - d for c, d in zip(times_of(ring, reach, one), times_of(ring, reach, other))]
        self.assertEqual(total, gap)

    def test_multiples_by_numbers_of_the_heap(self):
        source = maker(58)
        for poly, ring, reach, top, box in reaches((2, 5, 29)):
            for time in range(3):
                ideal = some_within(source, ring, reach, 2)
                there, other = ideal, ideal
                for x in reach.heap():
                    if source.random() < 0.2:
                        there = product(ring, there, made(ring, [x]))
                    if source.random() < 0.2:
                        other = product(ring, other, made(ring, [x]))
                self.check_way(ring, reach, there, other)
                self.check_way(ring, reach, other, there)
                self.check_way(ring, reach, there, ideal)
                self.assertEqual(reach.way(there, there), [])

    def test_powers_of_primes(self):
        for poly, ring, reach, top, box in reaches((2, 29)):
            for prime in reach.told()[:5]:
                divisors = reach.divisors()
                lay = reach.lay(prime)
                if all(c == 0 for c, d in zip(lay, divisors) if d == 0):
                    k = max([d for d in divisors if d != 0] + [1])
                    self.check_way(ring, reach, raised(ring, prime, k), whole_ring(ring))
                    self.check_way(ring, reach, whole_ring(ring), raised(ring, prime, k))

    def test_none(self):
        reach = Reach(Ring((5, 0, 1)), 29, 4)
        ring = Ring((5, 0, 1))
        two, three = ((2, 0), (1, 1)), ((3, 0), (1, 1))
        self.assertIsNone(reach.way(two, whole_ring(ring)))
        self.assertIsNone(reach.way(whole_ring(ring), three))
        self.check_way(ring, reach, two, three)
        # Alike, but no number of the heap shows it.
        low = Reach(ring, 3, 0)
        self.assertIsNone(low.way(two, three))
        self.check_way(ring, low, raised(ring, two, 2), whole_ring(ring))

    def test_told_lists_are_the_askers(self):
        ring = Ring((5, 0, 1))
        reach = Reach(ring, 29, 4)
        told = reach.way(((2, 0), (1, 1)), ((3, 0), (1, 1)))
        kept = list(told)
        told.clear()
        self.check_way(ring, reach, ((2, 0), (1, 1)), ((3, 0), (1, 1)))
        self.assertGreater(len(kept), 0)
