"""Points 1 to 5 over the whole program, and the interface."""

import importlib
import inspect
import unittest

from ringhouse import errors
from ringhouse.above import above
from ringhouse.boxes import boxed
from ringhouse.classes import Classes
from ringhouse.desk import Desk
from ringhouse.double import both, inverse, meet
from ringhouse.group import diagonal
from ringhouse.homes import home
from ringhouse.ideals import inside, joined, made, size, whole_ring
from ringhouse.likes import alike, maker
from ringhouse.lists import of_norm
from ringhouse.looker import sees_apart, sees_outside, sees_split, sees_whole
from ringhouse.looks import sees_prime, sees_road, sees_small, sees_taken, sees_unit
from ringhouse.measure import measure
from ringhouse.numbers import over
from ringhouse.papers import papers
from ringhouse.products import product, raised
from ringhouse.quotients import colon, quotient
from ringhouse.reach import Reach
from ringhouse.ring import Ring
from ringhouse.small import bound, small
from ringhouse.split import split_by, stays
from ringhouse.stairs import stair
from ringhouse.taken import built, often, often_in, taken
from ringhouse.texts import read_parts, read_row, read_table, shown_parts
from ringhouse.units import as_power, basic, units
from ringhouse.whole import parted, small_primes
from tests.helper import RINGS, brute_outside, one_table, refused, rings_of, some_ideals
from tests.helper import maker as source_of

# Each module's functions, with how many things each takes.
FUNCTIONS = {
    "whole": {"shared": 2, "root": 1, "small_primes": 0, "parted": 1},
    "tables": {"det": 1},
    "polys": {"cut": 1, "poly_plus": 2, "poly_less": 2, "poly_times": 2, "poly_parted": 2, "poly_at": 2},
    "modp": {"mod_poly": 2, "mod_times": 3, "mod_parted": 3, "mod_shared": 3},
    "split": {"split_by": 2, "stays": 2},
    "apart": {"apart": 1},
    "measure": {"measure": 1},
    "papers": {"papers": 1},
    "numbers": {
        "add": 3, "less": 3, "times": 3, "power": 3, "table_of": 2, "norm": 2, "trace": 2, "own": 2, "mate": 2,
        "over": 3,
    },
    "stairs": {"stair": 3, "rest": 2},
    "ideals": {"whole_ring": 1, "made": 2, "is_ideal": 2, "holds": 2, "inside": 2, "size": 1, "joined": 2},
    "double": {"meet": 2, "inverse": 3, "both": 5},
    "products": {"product": 3, "raised": 3, "partner": 2},
    "quotients": {"quotient": 3, "colon": 3},
    "above": {"above": 2},
    "taken": {"often": 3, "often_in": 3, "taken": 2, "built": 2},
    "lists": {"of_norm": 2},
    "boxes": {"boxed": 4},
    "small": {"bound": 1, "small": 2},
    "homes": {"home": 2, "road": 2},
    "likes": {"alike": 3, "maker": 2},
    "group": {"diagonal": 2},
    "units": {"units": 1, "basic": 1, "as_power": 2},
    "looker": {"sees_apart": 3, "sees_split": 3, "sees_outside": 3, "sees_whole": 2},
    "looks": {"sees_prime": 2, "sees_taken": 3, "sees_road": 5, "sees_small": 4, "sees_unit": 2},
    "texts": {"shown_row": 1, "shown_table": 1, "shown_parts": 1, "read_row": 1, "read_table": 1, "read_parts": 1},
}
# Each class's own things and its methods, likewise.
CLASSES = {
    "ring": ("Ring", 1, {}),
    "classes": ("Classes", 1, {"homes": 0, "divisors": 0, "lay": 1, "laid": 1}),
    "reach": ("Reach", 3, {"told": 0, "heap": 0, "divisors": 0, "lay": 1, "laid": 1, "way": 2}),
    "desk": ("Desk", 0, {"tell": 1, "back": 0, "again": 0, "lines": 0}),
}


def many_things(call):
    return len(inspect.signature(call).parameters)


def five():
    return Ring((5, 0, 1))


class Interface(unittest.TestCase):
    def test_functions(self):
        for module, rows in FUNCTIONS.items():
            found = importlib.import_module("ringhouse." + module)
            for name, many in rows.items():
                self.assertEqual(many_things(getattr(found, name)), many, name)

    def test_classes(self):
        for module, (name, many, methods) in CLASSES.items():
            found = getattr(importlib.import_module("ringhouse." + module), name)
            self.assertEqual(many_things(found), many, name)
            for method, things in methods.items():
                self.assertEqual(many_things(getattr(found, method)), things + 1, method)

    def test_fields_of_a_ring(self):
        ring = Ring((-2, 0, 0, 1))
        self.assertEqual((ring.poly, ring.degree, ring.measure), ((-2, 0, 0, 1), 3, -108))


TWO, THREE = ((2, 0), (1, 1)), ((3, 0), (1, 1))


def told_lists():
    """Calls, each of which tells a list, or a tuple or list with lists in it."""
    ring, other = five(), Ring((21, 0, 1))
    classes, reach = Classes(other), Reach(ring, 7, 1)
    desk = Desk()
    desk.tell("ring 5 0 1")
    desk.tell("let a made 2 0")
    return [
        small_primes, lambda: parted(360), lambda: split_by((-1, 0, 1), 5), lambda: papers(other),
        lambda: above(ring, 3), lambda: taken(ring, one_table(2, 6)), lambda: of_norm(ring, 6),
        lambda: boxed(ring, one_table(2), 2, 6), lambda: diagonal([(2, 4), (6, 8)], 2), lambda: units(Ring((1, 0, 1))),
        classes.homes, classes.divisors, reach.told, reach.heap, reach.divisors,
        lambda: reach.laid((1,) * len(reach.divisors())), lambda: reach.way(TWO, TWO),
        lambda: reach.way(one_table(2, 6), one_table(2)), lambda: read_parts("2 0 / 1 1 ^ 3"), desk.lines,
    ]


def spoil(thing):
    """Change all lists in what was told."""
    if isinstance(thing, (list, tuple)):
        for part in thing:
            spoil(part)
    if isinstance(thing, list):
        thing.reverse()
        thing.append(("spoilt",))
        thing[0] = "spoilt"


class Point2(unittest.TestCase):
    def test_told_lists_that_were_changed(self):
        for call in told_lists():
            before = repr(call())
            told = call()
            spoil(told)
            self.assertNotEqual(repr(told), before)
            self.assertEqual(repr(call()), before)

    def test_later_askings_change_no_told_list(self):
        calls = told_lists()
        told = [call() for call in calls]
        kept = [repr(thing) for thing in told]
        for call in calls:
            spoil(call())
        self.assertEqual([repr(thing) for thing in told], kept)

    def test_lists_that_are_handed_in(self):
        ring = five()
        for call, things in (
            (lambda rows: made(ring, rows), [(2, 0), (1, 1)]), (lambda rows: stair(2, 6, rows), [(2, 0), (1, 1)]),
            (lambda rows: built(ring, rows), [(TWO, 2), (THREE, 1)]),
            (lambda rows: diagonal(rows, 2), [(2, 4), (6, 8)]),
            (lambda rows: sees_taken(ring, product(ring, TWO, THREE), rows), [(THREE, 1), (TWO, 1)]),
            (lambda rows: sees_split((5, 0, 1), 3, rows), [((2, 1), 1), ((1, 1), 1)]),
            (lambda rows: sees_whole((5, 0, 1), rows), [(2, [((1, 1), 2, (6,))])]),
            (shown_parts, [(TWO, 1), (THREE, 2)]),
        ):
            kept = repr(things)
            told = call(things)
            self.assertEqual(repr(things), kept)
            shown = repr(told)
            spoil(things)
            self.assertEqual(repr(told), shown)

    def test_two_askings_are_alike(self):
        for poly in RINGS:
            one, other = Ring(poly), Ring(poly)
            self.assertEqual((one.poly, one.degree, one.measure), (other.poly, other.degree, other.measure))
            self.assertEqual(papers(one), papers(other))
            for m in range(1, 12):
                self.assertEqual(of_norm(one, m), of_norm(other, m))
            self.assertEqual(bound(one), bound(other))


def refusals():
    """Each refusal's name with calls that are refused so, and a good asking beside each."""
    ring, cubic, wide = five(), Ring((-2, 0, 0, 1)), Ring((-2, 0, 1))
    reach, desk, empty = Reach(ring, 2, 0), Desk(), Desk()
    desk.tell("ring 5 0 1")
    desk.tell("let a made 2 0")
    return (
        ("NoPolynomial", lambda: Ring((1, 1)), lambda: Ring((1, 1, 1))),
        ("NoPolynomial", lambda: measure((500, 0, 1)), lambda: measure((499, 0, 1))),
        ("FallsApart", lambda: Ring((-1, 0, 1)), lambda: Ring((1, 0, 1))),
        ("TooGreat", lambda: Ring((-499, 0, 0, 1)), lambda: Ring((-2, 0, 0, 1))),
        ("TooGreat", lambda: of_norm(ring, 100), lambda: of_norm(ring, 99)),
        ("TooGreat", lambda: boxed(ring, TWO, 10, 1), lambda: boxed(ring, TWO, 9, 1)),
        ("TooGreat", lambda: small(ring, one_table(2, 10)), lambda: small(ring, one_table(2, 9))),
        ("TooGreat", lambda: Classes(Ring((-498, 3, 1))), lambda: Classes(Ring((-499, 1, 1)))),
        ("TooGreat", lambda: Reach(ring, 30, 0), lambda: Reach(ring, 29, 0)),
        ("TooGreat", lambda: desk.tell("let a made " + "9" * 60 + " 0"), lambda: desk.tell("let a made 2 0")),
        ("NotWhole", lambda: Ring((-5, 0, 1)), lambda: Ring((-6, 0, 1))),
        ("Nought", lambda: over(ring, (1, 0), (0, 0)), lambda: over(ring, (0, 0), (1, 0))),
        ("Nought", lambda: made(ring, []), lambda: made(ring, [(1, 0)])),
        ("Nought", lambda: often_in(ring, TWO, (0, 0)), lambda: often_in(ring, TWO, (2, 0))),
        ("NotHeld", lambda: over(ring, (1, 0), (2, 0)), lambda: over(ring, (4, 0), (2, 0))),
        ("NotHeld", lambda: quotient(ring, TWO, THREE), lambda: quotient(ring, TWO, TWO)),
        ("NotApart", lambda: inverse(ring, TWO, (1, 1)), lambda: inverse(ring, TWO, (1, 0))),
        ("NotApart", lambda: both(ring, TWO, TWO, (0, 0), (0, 0)), lambda: both(ring, TWO, THREE, (1, 0), (0, 1))),
        ("NoPrime", lambda: above(ring, 4), lambda: above(ring, 199)),
        ("NoPrime", lambda: stays((1, 1), 211), lambda: stays((1, 1), 2)),
        ("TooFar", lambda: taken(ring, one_table(2, 211)), lambda: taken(ring, one_table(2, 199))),
        ("NotTwo", lambda: home(cubic, whole_ring(cubic)), lambda: home(ring, TWO)),
        ("NotTwo", lambda: alike(cubic, whole_ring(cubic), whole_ring(cubic)), lambda: alike(ring, TWO, TWO)),
        ("Endless", lambda: units(wide), lambda: units(ring)),
        ("NoBasic", lambda: basic(ring), lambda: basic(wide)),
        ("NotUnit", lambda: as_power(wide, (2, 1)), lambda: as_power(wide, (1, 1))),
        ("Beyond", lambda: reach.lay(THREE), lambda: reach.lay(TWO)),
        ("NoText", lambda: read_row("+1"), lambda: read_row("1")),
        ("NoText", lambda: read_table("1 0"), lambda: read_table("1 0 / 0 1")),
        ("NoLine", lambda: desk.tell("x"), lambda: desk.tell("classes")),
        ("NoRing", lambda: empty.tell("classes"), lambda: desk.tell("classes")),
        ("NoName", lambda: desk.tell("table b"), lambda: desk.tell("table a")),
        ("NoPlaces", lambda: desk.tell("holds a 1"), lambda: desk.tell("holds a 1 0")),
        ("NoIdeal", lambda: desk.tell("let b table 2 0 / 0 1"), lambda: desk.tell("let b table 2 0 / 1 1")),
    )


class Point4(unittest.TestCase):
    def test_each_refusal_and_then_a_good_asking(self):
        rows = refusals()
        names = [name for name in vars(errors) if name[0].isupper() and name != "RingError"]
        self.assertEqual(sorted({row[0] for row in rows}), sorted(names))
        for name, wrong, good in rows:
            before = repr(good())
            for time in range(2):
                refusal = refused(wrong)
                self.assertIs(refusal.__class__, getattr(errors, name), name)
                self.assertIsInstance(refusal, errors.RingError)
                self.assertIsInstance(refusal, ValueError)
                if name not in ("NoPolynomial", "FallsApart", "NotWhole") and "object" not in before:
                    self.assertEqual(repr(good()), before)
                else:
                    good()

    def test_fields(self):
        refusal = refused(Ring, (-4, 0, 0, 0, 1))
        self.assertEqual(sees_apart((-4, 0, 0, 0, 1), refusal.left, refusal.right), True)
        refusal = refused(Ring, (-4, 0, 0, 1))
        self.assertEqual(sees_outside((-4, 0, 0, 1), refusal.prime, refusal.number), True)
        self.assertTrue(any(refusal.number))
        self.assertTrue(all(0 <= c < refusal.prime for c in refusal.number))


class Point5(unittest.TestCase):
    def test_one_of_four_things_comes_of_each_polynomial(self):
        source = source_of(55)
        seen = set()
        for time in range(400):
            n = source.choice((2, 2, 3, 3, 4))
            reach = source.choice((3, 9, 40, 499)[: 6 - n])
            poly = tuple(source.randint(-reach, reach) for i in range(n)) + (1,)
            refusal = refused(Ring, poly)
            name = refusal.__class__.__name__
            seen.add(name)
            if name == "FallsApart":
                self.assertTrue(sees_apart(poly, refusal.left, refusal.right))
            elif name == "TooGreat":
                self.assertGreater(abs(measure(poly)), 39999)
            elif name == "NotWhole":
                self.assertTrue(sees_outside(poly, refusal.prime, refusal.number))
            else:
                self.assertIsNone(refusal)
                self.assertTrue(sees_whole(poly, papers(Ring(poly))))
                self.assertEqual(brute_outside(poly, 2), [])
        self.assertEqual(seen, {"FallsApart", "TooGreat", "NotWhole", "NoneType"})

    def test_primes_go_into_what_comes_of_two(self):
        for poly, ring in rings_of(RINGS):
            ideals = some_ideals(poly)[-4:]
            primes = [row[0] for p in (2, 3, 5, 7, 11) for row in above(ring, p)]
            for one in ideals:
                self.assertTrue(sees_taken(ring, one, taken(ring, one)))
                for other in ideals:
                    for ideal, rule in (
                        (product(ring, one, other), lambda k, m: k + m), (joined(one, other), min),
                        (meet(one, other), max), (colon(ring, one, other), lambda k, m: max(0, k - m)),
                    ):
                        for prime in primes[:4]:
                            due = rule(often(ring, prime, one), often(ring, prime, other))
                            self.assertEqual(often(ring, prime, ideal), due)

    def test_small_numbers(self):
        for poly, ring in rings_of(RINGS):
            for ideal in some_ideals(poly)[-3:]:
                x, left = small(ring, ideal)
                self.assertTrue(sees_small(ring, ideal, x, left))
                self.assertLessEqual(size(left), bound(ring))
                self.assertTrue(inside(made(ring, [x]), ideal))

    def test_alike_ideals_the_group_and_units(self):
        for poly in ((5, 0, 1), (21, 0, 1), (-10, 0, 1), (-82, 0, 1), (65, 0, 1), (-2, 0, 1)):
            ring = Ring(poly)
            classes = Classes(ring)
            for one in some_ideals(poly, 9):
                for other in some_ideals(poly, 9):
                    told = alike(ring, one, other)
                    same = home(ring, one) == home(ring, other)
                    self.assertEqual(told is not None, same)
                    self.assertEqual(classes.lay(one) == classes.lay(other), same)
                    if told is not None:
                        self.assertTrue(sees_road(ring, one, other, *told))
                x = maker(ring, one)
                self.assertEqual(x is not None, home(ring, one) == whole_ring(ring))
                top = raised(ring, one, ([1] + classes.divisors())[-1])
                self.assertEqual(home(ring, top), whole_ring(ring))
            told = [basic(ring)] if ring.measure > 0 else units(ring)
            self.assertTrue(all(sees_unit(ring, x) for x in told))
            self.assertTrue(all(sees_prime(ring, row[0]) for row in above(ring, 3)))
