"""Point 4 and the interface of ringhouse/errors.py."""

import unittest

from ringhouse import errors

NAMES = (
    "NoPolynomial FallsApart TooGreat NotWhole Nought NotHeld NotApart NoPrime TooFar NotTwo Endless "
    "NoBasic NotUnit Beyond NoText NoLine NoRing NoName NoPlaces NoIdeal"
).split()


class Point4(unittest.TestCase):
    def test_each_is_straight_under_ring_error(self):
        for name in NAMES:
            self.assertEqual(getattr(errors, name).__bases__, (errors.RingError,), name)

    def test_none_stands_under_another_one(self):
        for one in NAMES:
            for other in NAMES:
                if one != other:
                    self.assertFalse(issubclass(getattr(errors, one), getattr(errors, other)), (one, other))

    def test_each_has_a_class_of_its_own(self):
        self.assertEqual(len({getattr(errors, name) for name in NAMES}), 20)

    def test_ring_error_stands_under_value_error(self):
        self.assertEqual(errors.RingError.__bases__, (ValueError,))

    def test_fields_of_falls_apart(self):
        refusal = errors.FallsApart((1, 1), (2, 1))
        self.assertEqual((refusal.left, refusal.right), ((1, 1), (2, 1)))

    def test_fields_of_not_whole(self):
        refusal = errors.NotWhole(2, (1, 1))
        self.assertEqual((refusal.prime, refusal.number), (2, (1, 1)))

    def test_field_of_no_name(self):
        self.assertEqual(errors.NoName("a").name, "a")
