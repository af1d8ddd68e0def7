"""Points 59 and 60."""

import unittest

from ringhouse.errors import NoText
from ringhouse.ring import Ring
from ringhouse.taken import taken
from ringhouse.texts import read_parts, read_row, read_table, shown_parts, shown_row, shown_table
from tests.helper import RINGS, maker, one_table, refused, some_ideals

SIXTY = 10 ** 60 - 1
# A number that is none, whatever it stands in.
NO_NUMBERS = (
    "", "+1", "01", "-0", "00", "-01", "-", "--1", "1-", "1.0", "1,0", "1e3", "x", "one", "^", "*", "/", "1/2", "1_000",
    "0x1", "1^2", "(1)", "+0", "~", "!", "-+1", "1+", str(SIXTY + 1), str(-SIXTY - 1), "1" + "0" * 4999, "9" * 61,
    "-" + "9" * 61, "0" * 60, ",", "A",
)


class Point59(unittest.TestCase):
    def test_rows(self):
        for row, due in (
            ((0,), "0"), ((7,), "7"), ((-7,), "-7"), ((1, 0), "1 0"), ((0, 0, 0), "0 0 0"),
            ((-10, 100, -1000), "-10 100 -1000"), ((SIXTY,), "9" * 60), ((-10 ** 499,), "-1" + "0" * 499),
            (tuple(range(12)), "0 1 2 3 4 5 6 7 8 9 10 11"),
        ):
            self.assertEqual(shown_row(row), due)

    def test_tables(self):
        for table, due in (
            (((5,),), "5"), (((-5,),), "-5"), (((1, 0), (0, 1)), "1 0 / 0 1"), (((2, 0), (-1, 1)), "2 0 / -1 1"),
            (((1, 0, 0), (0, 1, 0), (0, 0, 1)), "1 0 0 / 0 1 0 / 0 0 1"),
            # Rows of any number and lengths are written.
            (((1, 2, 3),), "1 2 3"), (((1,), (2,)), "1 / 2"), (((1,), (2, 3)), "1 / 2 3"),
        ):
            self.assertEqual(shown_table(table), due)

    def test_parts(self):
        two, three = ((2, 0), (1, 1)), ((3, 0), (2, 1))
        for parts, due in (
            ([], "one"), ([(two, 1)], "2 0 / 1 1 ^ 1"), ([(two, 12), (three, 1)], "2 0 / 1 1 ^ 12 * 3 0 / 2 1 ^ 1"),
            ([(((7,),), 3)], "7 ^ 3"), ([(two, 1), (two, 1)], "2 0 / 1 1 ^ 1 * 2 0 / 1 1 ^ 1"),
        ):
            kept = list(parts)
            self.assertEqual(shown_parts(parts), due)
            self.assertEqual(parts, kept)


class Point60(unittest.TestCase):
    def check_none(self, call, texts):
        for text in texts:
            self.assertIs(refused(call, text).__class__, NoText, text[:80])

    def test_rows_are_read_again(self):
        source = maker(60)
        for size in (1, 2, 3, 4, 20):
            for reach in (0, 1, 10, 10 ** 30, SIXTY):
                row = tuple(source.randint(-reach, reach) for i in range(size))
                told = read_row(shown_row(row))
                self.assertEqual(told, row)
                self.assertIs(told.__class__, tuple)
                self.assertTrue(all(c.__class__ is int for c in told))
        self.assertEqual(read_row(str(SIXTY)), (SIXTY,))
        self.assertEqual(read_row(str(-SIXTY) + " 0"), (-SIXTY, 0))

    def test_tables_are_read_again(self):
        source = maker(601)
        for size in (1, 2, 3, 4, 9):
            for reach in (0, 1, 10, SIXTY):
                table = tuple(tuple(source.randint(-reach, reach) for j in range(size)) for i in range(size))
                told = read_table(shown_table(table))
                self.assertEqual(told, table)
                self.assertIs(told.__class__, tuple)
                self.assertTrue(all(row.__class__ is tuple for row in told))

    def test_parts_are_read_again(self):
        for poly in RINGS:
            ring = Ring(poly)
            for ideal in some_ideals(poly) + [one_table(ring.degree, 60)]:
                parts = taken(ring, ideal)
                told = read_parts(shown_parts(parts))
                self.assertEqual(told, parts)
                self.assertIs(told.__class__, list)
                self.assertTrue(all(row.__class__ is tuple for row in told))
        self.assertEqual(read_parts("one"), [])
        self.assertEqual(read_parts("-7 ^ " + str(SIXTY)), [(((-7,),), SIXTY)])
        # Nothing else is asked: the tables may be of unlike sizes, alike, and no ideals.
        parts = [(((0,),), 1), (((1, 2), (3, 4)), 2), (((0,),), 1)]
        self.assertEqual(read_parts("0 ^ 1 * 1 2 / 3 4 ^ 2 * 0 ^ 1"), parts)

    def test_no_rows(self):
        self.check_none(read_row, NO_NUMBERS)
        for word in NO_NUMBERS:
            self.check_none(read_row, (f"1 {word}", f"{word} 1", f"1 {word} 2"))
        self.check_none(read_row, (" ", " 1", "1 ", "1  2", "  1 2", "1 2  ", "1 / 2", "1 0 / 0 1", "1, 2", "one"))

    def test_no_tables(self):
        self.check_none(read_table, NO_NUMBERS)
        for word in NO_NUMBERS:
            self.check_none(read_table, (f"1 0 / 0 {word}", f"{word} 0 / 0 1", f"1 {word} / 0 1"))
            if word != "/":
                self.check_none(read_table, (f"1 0 {word} 0 1",))
        self.check_none(read_table, (
            "1 0/ 0 1", "1 0 /0 1", "1 0/0 1", "1 0  / 0 1", "1 0 /  0 1", " 1 0 / 0 1", "1 0 / 0 1 ", "1 0 / 0 1 /",
            "/ 1 0 / 0 1", "1 0 / / 0 1", "1 0 //  0 1", "1 0 / 0 1 / ", " / ", "/", "1 /", "/ 1", "1 0 // 0 1",
        ))
        # Rows of unlike lengths, more rows than places, and fewer.
        self.check_none(read_table, (
            "1 0", "1 / 0", "1 0 / 1", "1 / 0 1", "1 0 / 0 1 / 0 0", "1 0 0 / 0 1 0", "1 0 0 / 0 1 / 0 0 1",
            "1 0 / 0 1 0", "one", "1 ^ 1",
        ))

    def test_no_parts(self):
        for word in NO_NUMBERS:
            if word != "one":
                self.check_none(read_parts, (word,))
            self.check_none(read_parts, (f"{word} ^ 1", f"1 ^ {word}", f"1 0 / 0 {word} ^ 1", f"1 ^ 1 * 1 ^ {word}"))
        self.check_none(read_parts, (
            "1", "1 ^", "^ 1", "1^1", "1 ^1", "1^ 1", "1 ^ 0", "1 ^ -1", "1 ^ 1 ^ 1", "1 ^  1", " 1 ^ 1", "1 ^ 1 ",
            "one ", " one", "One", "one * 1 ^ 1", "1 ^ 1 * one", "1 ^ 1 *", "* 1 ^ 1", "1 ^ 1 * ", "1 ^ 1* 1 ^ 1",
            "1 ^ 1 *1 ^ 1", "1 ^ 1  * 1 ^ 1", "1 ^ 1 * * 1 ^ 1", "1 ^ 1 / 1 ^ 1", "1 0 ^ 1", "1 / 0 ^ 1",
            "1 0 / 0 1 0 ^ 1", "1 ^ 1 2", "1 * 1", "one one", "1 0 / 0 1 ^ 1 * 1 0 / 0 ^ 1", "1 ^ 01", "1 ^ +1",
        ))

    def test_what_is_read_is_what_is_written(self):
        for text in ("0", "1 -2", "10 0 / 0 1", "5", "-5", "1 0 0 / 0 1 0 / 0 0 1"):
            for read, shown in ((read_row, shown_row), (read_table, shown_table)):
                if refused(read, text) is None:
                    self.assertEqual(shown(read(text)), text)
        self.assertEqual(shown_parts(read_parts("one")), "one")

    def test_told_lists_are_the_askers(self):
        for text in ("one", "5 ^ 1"):
            told = read_parts(text)
            kept = list(told)
            told.append(3)
            self.assertEqual(read_parts(text), kept)
