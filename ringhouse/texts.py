"""Rows, tables and parts written as texts, and read from them."""

from ringhouse.errors import NoText

MOST_FIGURES = 60
FIGURES = "0123456789"
# What is written of no parts at all.
NO_PARTS = "one"


def shown_row(row):
    """A row of one place or more, written."""
    return " ".join([str(c) for c in row])


def shown_table(table):
    """A table of one row or more, written."""
    return " / ".join([shown_row(row) for row in table])


def shown_parts(parts):
    """A list of tuples (table, often), written."""
    if len(parts) == 0:
        return NO_PARTS
    return " * ".join([f"{shown_table(table)} ^ {often}" for table, often in parts])


def read_row(text):
    """The row that a text is written of."""
    words = text.split(" ")
    if not all([is_number(word) for word in words]):
        raise NoText("this is no row")
    return tuple([int(word) for word in words])


def read_table(text):
    """The table that a text is written of, with as many places in each row as it has rows."""
    rows = tuple([read_row(part) for part in text.split(" / ")])
    if any([len(row) != len(rows) for row in rows]):
        raise NoText("a table has as many places in each row as it has rows")
    return rows


def read_parts(text):
    """The list of tuples (table, often) that a text is written of."""
    if text == NO_PARTS:
        return []
    return [read_part(part) for part in text.split(" * ")]


def read_part(text):
    """The tuple (table, often) that a text is written of."""
    sides = text.split(" ^ ")
    if len(sides) != 2 or not is_number(sides[1]) or int(sides[1]) < 1:
        raise NoText("a part is a table, the sign ^ and a number from 1 on")
    return (read_table(sides[0]), int(sides[1]))


def is_number(word):
    """Whether a word is a whole number as it is written, of at most sixty figures."""
    if word == "0":
        return True
    figures = word[1:] if word.startswith("-") else word
    if figures == "" or figures[0] == "0" or len(figures) > MOST_FIGURES:
        return False
    return all([sign in FIGURES for sign in figures])
