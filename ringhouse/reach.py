"""A reach: what comes of small primes and small numbers alone."""

from ringhouse.above import above
from ringhouse.boxes import rows_within
from ringhouse.errors import Beyond, TooGreat
from ringhouse.ideals import made, size
from ringhouse.numbers import number_of
from ringhouse.polys import cut
from ringhouse.shut import Shut, how_often, row_laid, shut_divisors, shut_lay
from ringhouse.taken import often_by, turn_of
from ringhouse.whole import small_primes, to_the

GREATEST_TOP = 29
GREATEST_BOX = {2: 4, 3: 2, 4: 1}


class Reach:
    """The primes of norms up to top, the numbers within a box that they make, and what these join."""

    def __init__(self, ring, top, box):
        if top > GREATEST_TOP or box > GREATEST_BOX[ring.degree]:
            raise TooGreat("top or box is greater than the bound for this degree")
        self.ring = ring
        # A prime's turn is dear, and is asked for with each ideal: so it is kept beside the prime.
        self.primes = [(prime, turn_of(ring, prime)) for prime in primes_up_to(ring, top)]
        rows = numbers_times(ring, self.primes, candidates(ring, top, box))
        self.numbers = [x for x, times in rows]
        self.shut = Shut([times for x, times in rows], len(self.primes))

    def told(self):
        """The list of the reach's primes."""
        return [prime for prime, turn in self.primes]

    def heap(self):
        """The list of the numbers of the heap."""
        return list(self.numbers)

    def divisors(self):
        """The divisors of the reach."""
        return shut_divisors(self.shut)

    def lay(self, ideal):
        """The lay of an ideal within the reach."""
        return shut_lay(self.shut, need_times(self.ring, self.primes, ideal))

    def laid(self, places):
        """How often each prime is taken where the sum of the primes' lays is these places."""
        return row_laid(self.shut, places)

    def way(self, one, other):
        """The list of the (x, often) by which two ideals are joined; None where they are not."""
        times = need_times(self.ring, self.primes, one)
        others = need_times(self.ring, self.primes, other)
        many = how_often(self.shut, tuple([c - d for c, d in zip(times, others)]))
        if many is None:
            return None
        return [(x, step) for x, step in zip(self.numbers, many) if step != 0]


def primes_up_to(ring, top):
    """The list of the prime ideals of norms up to top, in their order."""
    rows = [(p, row) for p in small_primes() if p <= top for row in above(ring, p)]
    return [prime for p, (prime, often, degree) in rows if to_the(p, degree) <= top]


def candidates(ring, top, box):
    """The list of the numbers that may be in the heap, of a number and its negative only one."""
    found = rows_within(box, ring.degree) + [number_of(ring, k) for k in range(1, top + 1)]
    return [x for x in sorted(set(found)) if is_upright(x)]


def is_upright(x):
    """Whether the last place other than 0 is above 0; so not of nought."""
    places = cut(x)
    return len(places) > 0 and places[-1] > 0


def numbers_times(ring, primes, numbers):
    """The list of the (x, times), x those of the numbers that make an ideal within the reach."""
    found = [(x, times_of(ring, primes, made(ring, [x]))) for x in numbers]
    return [row for row in found if row[1] is not None]


def times_of(ring, primes, ideal):
    """How often each prime goes into an ideal, a tuple; None where something else is left of it."""
    times = tuple([often_by(ring, prime, turn, ideal) for prime, turn in primes])
    value = 1
    for (prime, turn), many in zip(primes, times):
        value = value * to_the(size(prime), many)
    return times if value == size(ideal) else None


def need_times(ring, primes, ideal):
    """How often each prime goes into an ideal; refused where it is not within the reach."""
    times = times_of(ring, primes, ideal)
    if times is None:
        raise Beyond("the ideal is no product of the reach's primes")
    return times
