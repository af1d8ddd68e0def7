"""Point 9."""

import unittest

from ringhouse.polys import cut, poly_at, poly_less, poly_parted, poly_plus, poly_times
from tests.helper import brute_product, maker


def some(source, places, reach):
    """A polynomial of that many places."""
    if places == 0:
        return ()
    last = source.choice((-1, 1)) * source.randint(1, reach)
    return tuple(source.randint(-reach, reach) for i in range(places - 1)) + (last,)


class Point9(unittest.TestCase):
    def test_cut(self):
        self.assertEqual(cut(()), ())
        self.assertEqual(cut((0,)), ())
        self.assertEqual(cut((0, 0, 0)), ())
        self.assertEqual(cut((0, 1, 0)), (0, 1))
        self.assertEqual(cut((1, 0, 2)), (1, 0, 2))
        self.assertEqual(cut((0, -1, 0, 0)), (0, -1))
        self.assertEqual(cut((0,) * 20), ())

    def test_noughts_at_the_end_of_sums(self):
        self.assertEqual(poly_plus((1, 2, 3), (1, 1, -3)), (2, 3))
        self.assertEqual(poly_plus((1, 2), (-1, -2)), ())
        self.assertEqual(poly_less((1, 2, 3), (0, 2, 3)), (1,))
        self.assertEqual(poly_less((1, 2, 3), (1, 2, 3)), ())
        self.assertEqual(poly_less((5,), (0, 0, 1)), (5, 0, -1))

    def test_empty_row(self):
        f = (1, 0, 2)
        self.assertEqual(poly_plus((), ()), ())
        self.assertEqual(poly_plus((), f), f)
        self.assertEqual(poly_plus(f, ()), f)
        self.assertEqual(poly_less((), f), (-1, 0, -2))
        self.assertEqual(poly_less(f, ()), f)
        self.assertEqual(poly_times((), f), ())
        self.assertEqual(poly_times(f, ()), ())
        self.assertEqual(poly_times((), ()), ())
        self.assertEqual(poly_parted((), (3, 1)), ((), ()))
        self.assertEqual(poly_parted((), (1,)), ((), ()))
        self.assertEqual(poly_at((), 5), 0)

    def test_sums_and_products(self):
        source = maker(9)
        for time in range(400):
            f = some(source, source.randint(0, 20), source.choice((1, 9, 10 ** 100)))
            g = some(source, source.randint(0, 20), source.choice((1, 9, 10 ** 100)))
            product = poly_times(f, g)
            self.assertEqual(product, brute_product(f, g) if f and g else ())
            for told in (poly_plus(f, g), poly_less(f, g), product):
                self.assertTrue(told == () or told[-1] != 0)
            for z in range(-12, 13):
                self.assertEqual(poly_at(poly_plus(f, g), z), poly_at(f, z) + poly_at(g, z))
                self.assertEqual(poly_at(poly_less(f, g), z), poly_at(f, z) - poly_at(g, z))

    def test_parted(self):
        source = maker(99)
        for time in range(400):
            f = some(source, source.randint(0, 20), source.choice((1, 9, 10 ** 100)))
            g = some(source, source.randint(0, 19), source.choice((1, 9, 10 ** 30))) + (0, 0, 1)
            g = g[: source.randint(0, len(g) - 1)] + (1,)
            quotient, rest = poly_parted(f, g)
            for told in (quotient, rest):
                self.assertTrue(told == () or told[-1] != 0)
            self.assertLess(len(rest), len(g))
            self.assertEqual(poly_plus(poly_times(quotient, g), rest), f)

    def test_parted_at_the_edges(self):
        f = (3, 0, -2, 5)
        self.assertEqual(poly_parted(f, (1,)), (f, ()))
        self.assertEqual(poly_parted(f, (7, 7, 7, 7, 1)), ((), f))
        self.assertEqual(poly_parted((-1, 0, 1), (1, 1)), ((-1, 1), ()))
        self.assertEqual(poly_parted((1, 2, 3), (1, 2, 1)), ((3,), (-2, -4)))

    def test_values(self):
        self.assertEqual(poly_at((7,), 10 ** 90), 7)
        self.assertEqual(poly_at((1, 2, 3), -2), 1 - 4 + 12)
        self.assertEqual(poly_at((1, 2, 3), 0), 1)
        z = -(10 ** 99) - 1
        f = tuple(range(-9, 0)) + tuple(range(1, 12))
        self.assertEqual(poly_at(f, z), sum(c * z ** i for i, c in enumerate(f)))

    def test_kinds(self):
        told = poly_parted((1, 2, 3), (1, 1))
        for thing in (told, told[0], told[1], cut((1, 0)), poly_plus((1,), (1,)), poly_times((1,), (1,))):
            self.assertIs(thing.__class__, tuple)
