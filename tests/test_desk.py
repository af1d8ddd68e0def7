"""Points 61 to 66."""

import itertools
import unittest

from ringhouse import errors
from ringhouse.desk import Desk
from tests.helper import refused

SIXTY = "9" * 60
SIXTY_ONE = "9" * 61


def desk_with(*lines):
    desk = Desk()
    for line in lines:
        desk.tell(line)
    return desk


def five():
    """A desk with a ring of degree two and some names."""
    return desk_with("ring 5 0 1", "let two table 2 0 / 1 1", "let three table 3 0 / 1 1", "let six made 6 0")


class Desks(unittest.TestCase):
    def check_answers(self, desk, rows):
        for line, due in rows:
            self.assertEqual(desk.tell(line), due, line)

    def check_refused(self, desk, line, name):
        """The refusal of a line, which leaves the desk as it was."""
        before = desk.lines()
        refusal = refused(desk.tell, line)
        self.assertEqual(refusal.__class__.__name__, name, line[:80])
        self.assertEqual(desk.lines(), before)
        return refusal


class Point62(Desks):
    def test_each_deed(self):
        self.check_answers(Desk(), (
            ("ring 5 0 1", "degree 2 measure -20"),
            ("let a made 2 0 , 1 1", "2 0 / 1 1"),
            ("let one made 1 1", "6 0 / 1 1"),
            ("let b table 3 0 / 1 1", "3 0 / 1 1"),
            ("let c product a b", "6 0 / 1 1"),
            ("let d joined a b", "1 0 / 0 1"),
            ("let e meet a b", "6 0 / 1 1"),
            ("let f colon a b", "2 0 / 1 1"),
            ("let g quotient c b", "2 0 / 1 1"),
            ("let h raised b 2", "9 0 / 7 1"),
            ("let i partner b", "3 0 / 2 1"),
            ("let j home b", "2 0 / 1 1"),
            ("drop j", "gone"),
            ("ring -2 0 0 1", "degree 3 measure -108"),
            ("let a made 1 1 0 , 3 0 0 , 0 0 0", "3 0 0 / 1 1 0 / 2 0 1"),
            ("let b table 2 0 0 / 0 1 0 / 0 0 1", "2 0 0 / 0 1 0 / 0 0 1"),
            ("ring 1 1 1 1 1", "degree 4 measure 125"),
        ))

    def test_the_first_one_is_the_first(self):
        desk = five()
        self.check_answers(desk, (
            ("let q quotient six two", "6 0 / 3 3"), ("let c colon two six", "1 0 / 0 1"),
            ("let c colon six two", "6 0 / 3 3"),
            ("let p product two three", "6 0 / 1 1"), ("let c colon three two", "3 0 / 1 1"),
        ))
        self.check_refused(desk, "let q quotient two six", "NotHeld")

    def test_powers(self):
        desk = five()
        self.check_answers(desk, (
            ("let a raised two 0", "1 0 / 0 1"), ("let a raised two 1", "2 0 / 1 1"),
            ("let a raised two 20", "1024 0 / 0 1024"),
        ))
        for k in ("21", "-1", "-20", "100", SIXTY, "01", "-0", "+1", "", "a", "1 1"):
            self.check_refused(desk, f"let a raised two {k}", "NoLine")

    def test_ring_takes_all_names_away(self):
        desk = five()
        desk.tell("ring 5 0 1")
        self.assertEqual(desk.lines(), ["ring 5 0 1"])
        self.check_refused(desk, "table two", "NoName")

    def test_a_name_on_both_sides(self):
        desk = five()
        self.check_answers(desk, (
            ("let two product two two", "2 0 / 0 2"), ("let two product two three", "6 0 / 2 2"),
            ("table two", "6 0 / 2 2"), ("let three joined two three", "3 0 / 1 1"),
            ("let six quotient six six", "1 0 / 0 1"), ("size six", "1"), ("let six raised two 2", "36 0 / 28 4"),
            ("let two home two", "2 0 / 1 1"), ("let two partner two", "2 0 / 1 1"),
        ))
        # Not one of the desk's ahead of the line: not on the right side either.
        self.assertEqual(self.check_refused(desk, "let new product new two", "NoName").name, "new")

    def test_a_name_is_given_anew(self):
        desk = five()
        self.check_answers(desk, (("let two made 7 0", "7 0 / 0 7"), ("table two", "7 0 / 0 7"), ("drop two", "gone")))
        self.check_refused(desk, "table two", "NoName")
        self.check_refused(desk, "drop two", "NoName")
        self.assertEqual(desk.tell("let two made 2 0 , 1 1"), "2 0 / 1 1")


class Point61(Desks):
    def test_names(self):
        desk = five()
        for name in ("a", "z", "a1", "abcdefghijkl", "a00000000000", "q9z"):
            self.check_answers(desk, (
                (f"let {name} made 2 0", "2 0 / 0 2"), (f"size {name}", "4"), (f"drop {name}", "gone"),
            ))
        for name in (
            "", "1", "1a", "abcdefghijklm", "A", "aB", "a_b", "a-b", "a.b", "a/b", "a,", "-a", "_", "/", ",", "a" * 60,
            "~", "aa ",
        ):
            self.check_refused(desk, f"let {name} made 2 0", "NoLine")
            for line in (
                f"table {name}", f"drop {name}", f"inside two {name}", f"inside {name} two",
                f"let a product {name} two", f"let a product two {name}", f"let a home {name}",
                f"let a raised {name} 2", f"holds {name} 1 0",
            ):
                self.check_refused(desk, line, "NoLine")

    def test_words_of_lines_as_names(self):
        desk = five()
        for name in (
            "let", "ring", "made", "table", "product", "home", "drop", "raised", "one", "yes", "gone", "above",
            "classes", "basic", "holds", "row", "number", "power", "size", "quotient",
        ):
            self.check_answers(desk, (
                (f"let {name} table 2 0 / 1 1", "2 0 / 1 1"), (f"table {name}", "2 0 / 1 1"),
                (f"holds {name} 1 1", "yes"), (f"let {name} product {name} {name}", "2 0 / 0 2"),
                (f"let x home {name}", "1 0 / 0 1"), (f"let x raised {name} 2", "4 0 / 0 4"),
                (f"alike {name} {name}", "yes"), (f"drop {name}", "gone"),
            ))

    def test_numbers(self):
        desk = five()
        self.assertEqual(desk.tell(f"holds two {SIXTY} -{SIXTY}"), "yes")
        self.assertEqual(desk.tell(f"holds two -{SIXTY} 0"), "no")
        for word in (SIXTY_ONE, "-" + SIXTY_ONE, "+1", "01", "-0", "1.0", "a", "-", "1,0", "/", ",", "--1", "row"):
            for line in (
                f"holds two 1 {word}", f"holds two {word} 1", f"let a made 1 {word}", f"let a table 1 0 / 0 {word}",
                f"ring 5 {word} 1", f"ring {word}", f"above {word}", f"let a raised two {word}",
                f"holds two 1 {word} 1",
            ):
                self.check_refused(desk, line, "NoLine")

    def test_blanks(self):
        desk = five()
        for line in (
            "table two", "ring 5 0 1", "let a made 2 0 , 1 1", "let a table 2 0 / 1 1", "inside two two", "classes",
            "above 2", "let a product two two", "holds two 1 1", "drop two", "let a raised two 2", "let a home two",
            "alike two two",
        ):
            self.check_refused(desk, " " + line, "NoLine")
            self.check_refused(desk, line + " ", "NoLine")
            if " " in line:
                self.check_refused(desk, line.replace(" ", "  ", 1), "NoLine")
                self.check_refused(desk, line[::-1].replace(" ", "  ", 1)[::-1], "NoLine")
                self.check_refused(desk, line.replace(" ", "", 1), "NoLine")

    def test_two_desks_side_by_side(self):
        one, other = Desk(), Desk()
        one.tell("ring 5 0 1")
        self.check_refused(other, "classes", "NoRing")
        other.tell("ring -10 0 1")
        one.tell("let a made 2 0")
        self.check_refused(other, "table a", "NoName")
        other.tell("let a made 3 0")
        self.assertEqual((one.tell("size a"), other.tell("size a")), ("4", "9"))
        self.assertTrue(one.back())
        self.assertEqual(other.lines(), ["ring -10 0 1", "let a table 3 0 / 0 3"])
        self.assertEqual(one.lines(), ["ring 5 0 1"])
        self.assertFalse(other.again())


class Point63(Desks):
    def test_each_ask(self):
        desk = five()
        before = desk.lines()
        self.check_answers(desk, (
            ("table two", "2 0 / 1 1"), ("home three", "2 0 / 1 1"), ("home six", "1 0 / 0 1"), ("size two", "2"),
            ("size six", "36"), ("taken six", "2 0 / 1 1 ^ 2 * 3 0 / 1 1 ^ 1 * 3 0 / 2 1 ^ 1"),
            ("taken two", "2 0 / 1 1 ^ 1"), ("holds two 1 1", "yes"), ("holds two 1 0", "no"), ("holds two 0 0", "yes"),
            ("holds two -3 5", "yes"), ("inside six two", "yes"), ("inside two six", "no"), ("inside two two", "yes"),
            ("alike two three", "yes"), ("alike two six", "no"), ("alike six six", "yes"), ("above 2", "2 0 / 1 1 ^ 2"),
            ("above 3", "3 0 / 1 1 ^ 1 * 3 0 / 2 1 ^ 1"), ("above 11", "11 0 / 0 11 ^ 1"), ("classes", "2"),
        ))
        self.assertEqual(desk.lines(), before)
        desk.tell("let all made 1 0")
        self.check_answers(desk, (("taken all", "one"), ("size all", "1"), ("table all", "1 0 / 0 1")))

    def test_classes_and_basic(self):
        for poly, classes, unit in (
            ("-2 0 1", "one", "1 1"), ("-10 0 1", "2", "3 1"), ("-130 0 1", "2 2", "57 5"), ("-1 -1 1", "one", "0 1"),
            ("-94 0 1", "one", "2143295 221064"),
        ):
            desk = desk_with("ring " + poly)
            self.check_answers(desk, (("classes", classes), ("basic", unit)))
        self.assertEqual(desk_with("ring 1 0 1").tell("classes"), "one")
        self.assertEqual(desk_with("ring 21 0 1").tell("classes"), "2 2")

    def test_other_degrees(self):
        desk = desk_with("ring -2 0 0 1", "let a made 1 1 0", "let b table 5 0 0 / 2 1 0 / 1 0 1")
        self.check_answers(desk, (
            ("above 5", "5 0 0 / 2 1 0 / 1 0 1 ^ 1 * 5 0 0 / 0 5 0 / 4 3 1 ^ 1"),
            ("taken a", "3 0 0 / 1 1 0 / 2 0 1 ^ 1"),
            ("holds a 1 1 0", "yes"), ("holds a 1 0 0", "no"), ("inside a b", "no"), ("size b", "5"),
        ))
        for line in ("home a", "alike a b", "classes", "basic", "let c home a"):
            self.check_refused(desk, line, "NotTwo")


class Point64(Desks):
    def test_no_line(self):
        for desk in (Desk(), five()):
            for line in (
                "", " ", "x", "ring", "ring x", "ring 5 0 1 , 1", "ring 5 0 / 1", "let", "let a", "let a made",
                "let a table", "let a x 1", "let a made ,", "let a made 1 0 ,", "let a made , 1 0",
                "let a made 1 0 , , 1 1", "let a made 1 0 / 1 1", "let a table 1 0 , 0 1", "let a table /",
                "let a table 1 0 /", "let a table / 1 0", "let a table 1 0 / / 0 1", "let a product",
                "let a product two", "let a product two two two", "let a raised two", "let a raised 2 two",
                "let a raised two 2 2", "let a partner", "let a partner two two", "let a home", "let a home two 1",
                "drop", "drop two two", "drop 2", "table", "table two two", "home", "size", "size 2", "taken", "holds",
                "holds two", "holds 1 0", "holds two two", "holds two 1 0 , 1 1", "holds two 1 row 1", "inside two",
                "inside two two two", "alike", "alike two", "above", "above two", "above 2 3", "above 2 , 3",
                "classes two", "basic 1", "classes ", "Ring 5 0 1", "let a ring 5 0 1", "let a size two",
                "let a taken two", "let a drop two", "let a holds two 1 0", "product two two", "made 1 0",
                "raised two 2", "partner two", "back", "again", "lines", "let a inside two two", "let a above 2",
            ):
                self.check_refused(desk, line, "NoLine")

    def test_no_ring(self):
        desk = Desk()
        for line in (
            "let a made 1 0", "let a made 0 0", "let a table 1 0 / 0 1", "let a table 7 7 7", "let a product b c",
            "drop a", "table a", "home a", "size a", "taken a", "holds a 1", "inside a b", "alike a b", "above 4",
            "classes", "basic", "let a raised b 20", "let a home b", "let a partner b",
        ):
            self.check_refused(desk, line, "NoRing")
        self.assertEqual(desk.tell("ring 5 0 1"), "degree 2 measure -20")

    def test_no_name(self):
        desk = five()
        for line, name in (
            ("table a", "a"), ("home a", "a"), ("size a", "a"), ("taken a", "a"), ("drop a", "a"), ("holds a 1 0", "a"),
            ("inside a two", "a"), ("inside two b", "b"), ("inside a b", "a"), ("inside b a", "b"), ("alike a b", "a"),
            ("alike two b", "b"), ("let a product a two", "a"), ("let a product two b", "b"), ("let x joined c b", "c"),
            ("let x meet b c", "b"), ("let x colon b two", "b"), ("let x quotient two b", "b"),
            ("let x raised b 2", "b"), ("let x partner b", "b"), ("let x home b", "b"),
        ):
            refusal = self.check_refused(desk, line, "NoName")
            self.assertEqual(refusal.name, name)

    def test_no_places(self):
        desk = five()
        for line in (
            "let a made 1", "let a made 1 0 0", "let a made 1 0 , 1", "let a made 1 0 0 , 1 0", "holds two 1",
            "holds two 1 0 0", "let a table 1", "let a table 1 0", "let a table 1 0 / 0", "let a table 1 / 0 1",
            "let a table 1 0 / 0 1 / 0 0", "let a table 1 0 0 / 0 1 0 / 0 0 1", "let a table 1 0 / 0 1 0",
            "let a table 0 / 0",
        ):
            self.check_refused(desk, line, "NoPlaces")
        cubic = desk_with("ring -2 0 0 1", "let a made 1 1 0")
        for line in ("let b table 1 0 / 0 1", "let b made 1 0", "holds a 1 0", "let b made 1 0 0 0"):
            self.check_refused(cubic, line, "NoPlaces")

    def test_no_ideal(self):
        desk = five()
        for table in (
            "2 0 / 0 1", "0 0 / 0 0", "1 0 / 1 1", "-1 0 / 0 1", "3 1 / 0 1", "3 0 / -1 1", "3 0 / 4 1", "0 1 / 1 0",
        ):
            self.check_refused(desk, "let a table " + table, "NoIdeal")

    def test_what_the_functions_refuse(self):
        desk = five()
        desk.tell("let far made 211 0")
        for line, name in (
            ("ring 1 0", "NoPolynomial"), ("ring 1", "NoPolynomial"), ("ring 500 0 1", "NoPolynomial"),
            ("ring -1 0 1", "FallsApart"), ("ring -5 0 1", "NotWhole"), ("ring -499 0 0 0 1", "TooGreat"),
            (f"ring {SIXTY} 0 1", "NoPolynomial"), ("let a made 0 0", "Nought"), ("let a made 0 0 , 0 0", "Nought"),
            ("let a quotient two six", "NotHeld"), ("taken far", "TooFar"), ("above 4", "NoPrime"),
            ("above 211", "NoPrime"), ("above -2", "NoPrime"), ("above 0", "NoPrime"), (f"above {SIXTY}", "NoPrime"),
            ("basic", "NoBasic"),
        ):
            self.check_refused(desk, line, name)
        refusal = self.check_refused(desk, "ring -1 0 1", "FallsApart")
        self.assertEqual(sorted((refusal.left, refusal.right)), [(-1, 1), (1, 1)])
        refusal = self.check_refused(desk, "ring -5 0 1", "NotWhole")
        self.assertEqual((refusal.prime, refusal.number), (2, (1, 1)))
        self.check_refused(desk_with("ring -498 3 1"), "classes", "TooGreat")
        self.check_refused(desk_with("ring -1 -1 0 0 1"), "basic", "NotTwo")

    def test_norms_of_sixty_and_of_sixty_one_figures(self):
        desk = five()
        thirty = "9" * 30
        for line, figures in ((f"let a made {thirty} 0", 60), (f"let a table {thirty} 0 / 0 {thirty}", 60)):
            answer = desk.tell(line)
            self.assertEqual(answer, f"{thirty} 0 / 0 {thirty}")
            self.assertEqual(len(desk.tell("size a")), figures)
        great = "1" + "0" * 30
        for line in (
            f"let a made {great} 0", f"let a table {great} 0 / 0 {great}", "let a product a two",
            f"let a made {SIXTY} 0", f"let a table {SIXTY} 0 / 0 {SIXTY}", "let a raised a 2", "let a raised a 20",
            "let a product a a",
        ):
            self.check_refused(desk, line, "TooGreat")
        self.assertEqual(desk.tell("size a"), str((10 ** 30 - 1) ** 2))
        # Sixty figures are not too many, of whichever norm.
        desk = desk_with("ring 1 0 1", f"let a made {10 ** 29} 0", "let b made 3 0")
        self.assertEqual(desk.tell("let c product a b")[:3], "300")
        desk.tell(f"let d made {10 ** 20} 0")
        self.check_refused(desk, "let c meet a a2", "NoName")
        self.check_refused(desk, "let c product a d", "TooGreat")
        quartic = desk_with("ring 1 1 1 1 1", f"let a made {10 ** 14} 0 0 0")
        self.assertEqual(len(quartic.tell("size a")), 57)
        self.check_refused(quartic, f"let a made {10 ** 15} 0 0 0", "TooGreat")
        self.check_refused(quartic, f"let a made {SIXTY} 1 2 -{SIXTY}", "TooGreat")
        self.check_refused(quartic, "let a raised a 20", "TooGreat")

    def test_the_order_of_two(self):
        desk = five()
        none = Desk()
        # NoLine ahead of NoRing and of all that comes behind it.
        for line in ("let a raised b 21", "holds a", "let A made 0 0", f"let a made {SIXTY_ONE}", "ring x", "drop A"):
            self.check_refused(none, line, "NoLine")
            self.check_refused(desk, line, "NoLine")
        # NoRing ahead of NoName, NoPlaces, NoIdeal, and what functions refuse.
        for line in (
            "table a", "holds a 1 2 3 4 5", "let a table 0 0 / 0 0", "let a made 0 0", "above 4",
            f"let a made {SIXTY} 0",
        ):
            self.check_refused(none, line, "NoRing")
        # NoName ahead of NoPlaces and of what functions refuse.
        self.check_refused(desk, "holds a 1", "NoName")
        self.check_refused(desk, "let x quotient two a", "NoName")
        cubic = desk_with("ring -2 0 0 1", "let a made 1 1 0", f"let big made {10 ** 19} 0 0")
        for line in ("home b", "alike a b", "let c home b"):
            self.check_refused(cubic, line, "NoName")
        # NoPlaces ahead of NoIdeal, of Nought and of TooGreat.
        for line in (
            "let a table 0 0 0 / 0 0 0", "let a table 0", "let a made 0", "let a made 0 0 , 0",
            f"let a made {SIXTY} 0 , 1",
            f"let a table {SIXTY} 0 / 0 {SIXTY} / 1",
        ):
            self.check_refused(desk, line, "NoPlaces")
        # NoIdeal ahead of TooGreat.
        self.check_refused(desk, f"let a table {SIXTY} 0 / 1 {SIXTY}", "NoIdeal")
        self.check_refused(desk, f"let a table {SIXTY} 0 / 0 1", "NoIdeal")
        # What the functions refuse ahead of TooGreat.
        desk.tell("let big made " + "9" * 30 + " 0")
        self.check_refused(desk, "let a quotient two big", "NotHeld")
        self.check_refused(cubic, "let c home big", "NotTwo")

    def test_a_refused_line_leaves_the_desk_as_it_was(self):
        desk = five()
        before = desk.lines()
        for line in (
            "let two made 0 0", "let two product two x", "let two table 0 0 / 0 0", f"let two made {SIXTY} 0",
            "ring -1 0 1", "drop x", "let two made 1", "nothing", "let two quotient two six", "let new made 0 0",
        ):
            self.assertIsInstance(refused(desk.tell, line), errors.RingError)
            self.assertEqual(desk.lines(), before)
        self.assertEqual(desk.tell("table two"), "2 0 / 1 1")
        self.assertEqual(desk.tell("let two made 5 0"), "5 0 / 0 5")


class Point65(Desks):
    def test_at_the_beginning(self):
        desk = Desk()
        for time in range(2):
            self.assertIs(desk.back(), False)
            self.assertIs(desk.again(), False)
            self.assertEqual(desk.lines(), [])

    def test_all_the_way_back_and_again(self):
        deeds = (
            "ring 5 0 1", "let a made 2 0", "let b table 3 0 / 1 1", "let a product a b", "drop b", "let c home a",
            "ring -10 0 1", "let a made 7 0", "drop a", "ring -10 0 1",
        )
        desk = Desk()
        states = [desk.lines()]
        for line in deeds:
            desk.tell(line)
            states.append(desk.lines())
        for time in range(2):
            for state in states[-2::-1]:
                self.assertIs(desk.back(), True)
                self.assertEqual(desk.lines(), state)
            self.assertIs(desk.back(), False)
            self.assertEqual(desk.lines(), states[0])
            for state in states[1:]:
                self.assertIs(desk.again(), True)
                self.assertEqual(desk.lines(), state)
            self.assertIs(desk.again(), False)
            self.assertEqual(desk.lines(), states[-1])

    def test_a_deed_behind_a_back(self):
        desk = five()
        self.assertTrue(desk.back())
        self.assertTrue(desk.back())
        desk.tell("let new made 9 0")
        self.assertIs(desk.again(), False)
        self.assertEqual(desk.lines(), ["ring 5 0 1", "let new table 9 0 / 0 9", "let two table 2 0 / 1 1"])
        self.assertTrue(desk.back())
        self.assertEqual(desk.lines(), ["ring 5 0 1", "let two table 2 0 / 1 1"])
        self.assertTrue(desk.again())
        self.assertIs(desk.again(), False)
        for time in range(3):
            self.assertTrue(desk.back())
        self.assertIs(desk.back(), False)

    def test_asks_and_refused_lines_change_nothing(self):
        desk = five()
        whole = desk.lines()
        asks = (
            "table two", "size two", "classes", "above 2", "taken two", "holds two 1 1", "inside two two",
            "alike two two", "home two",
        )
        wrong = (
            "table x", "let a made 0 0", "ring -1 0 1", "", f"let two made {SIXTY} 0", "let a table 0 0 / 0 0",
            "drop x", "basic",
        )
        self.assertTrue(desk.back())
        self.assertTrue(desk.back())
        for line in asks + wrong:
            refused(desk.tell, line)
        self.assertTrue(desk.again())
        for line in asks + wrong:
            refused(desk.tell, line)
        self.assertTrue(desk.again())
        self.assertEqual(desk.lines(), whole)
        for line in asks + wrong:
            refused(desk.tell, line)
        self.assertTrue(desk.back())
        self.assertEqual(len(desk.lines()), 3)

    def test_a_deed_that_leaves_all_alike_counts(self):
        desk = desk_with("ring 5 0 1", "let a made 2 0", "let a made 2 0")
        self.assertTrue(desk.back())
        self.assertEqual(desk.tell("size a"), "4")
        self.assertTrue(desk.back())
        self.assertEqual(desk.lines(), ["ring 5 0 1"])
        desk = desk_with("ring 5 0 1", "ring 5 0 1")
        self.assertTrue(desk.back())
        self.assertEqual(desk.lines(), ["ring 5 0 1"])
        desk.tell("ring 5 0 1")
        self.assertIs(desk.again(), False)
        self.assertTrue(desk.back())
        self.assertTrue(desk.back())
        self.assertEqual(desk.lines(), [])
        self.check_refused(desk, "classes", "NoRing")

    def test_names_go_and_come_with_a_ring(self):
        desk = five()
        desk.tell("ring -10 0 1")
        self.check_refused(desk, "table two", "NoName")
        self.assertTrue(desk.back())
        self.assertEqual(desk.tell("table two"), "2 0 / 1 1")
        self.assertTrue(desk.again())
        self.check_refused(desk, "table two", "NoName")


class Point66(Desks):
    def test_lines(self):
        self.assertEqual(Desk().lines(), [])
        self.assertEqual(desk_with("ring -198 -65 0 1").lines(), ["ring -198 -65 0 1"])
        desk = desk_with(
            "ring 5 0 1", "let b made 2 0", "let a1 made 3 0", "let a made 1 1", "let z9 made 1 0", "let a10 made 5 0",
        )
        self.assertEqual(desk.lines(), [
            "ring 5 0 1", "let a table 6 0 / 1 1", "let a1 table 3 0 / 0 3", "let a10 table 5 0 / 0 5",
            "let b table 2 0 / 0 2",
            "let z9 table 1 0 / 0 1",
        ])

    def test_told_to_a_new_desk(self):
        thirty = "9" * 30
        for lines in (
            (), ("ring 5 0 1",),
            ("ring 5 0 1", f"let let made {thirty} 0", "let table made 2 0 , 1 1", "let x product table table"),
            ("ring -2 0 0 1", "let a made 1 1 0", "let b raised a 20", "drop a"),
            ("ring 1 1 1 1 1", "let a made 1 2 3 4", "let b partner a", "let c joined a b"),
        ):
            desk = desk_with(*lines)
            told = desk.lines()
            self.assertIs(told.__class__, list)
            again = desk_with(*told)
            self.assertEqual(again.lines(), told)
            for line in told[1:]:
                name = line.split(" ")[1]
                self.assertEqual(again.tell("table " + name), desk.tell("table " + name))

    def test_lists_are_the_askers(self):
        desk = five()
        told = desk.lines()
        kept = list(told)
        told.clear()
        self.assertEqual(desk.lines(), kept)
        desk.tell("let more made 7 0")
        self.assertEqual(len(kept), 4)
        for one, other in itertools.combinations([desk.lines(), desk.lines()], 2):
            one.append("x")
            self.assertNotEqual(one, other)
