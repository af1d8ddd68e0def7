"""The lines of a desk, taken into their words."""

from ringhouse.errors import NoLine
from ringhouse.texts import FIGURES, is_number

LETTERS = "abcdefghijklmnopqrstuvwxyz"
LONGEST_NAME = 12
GREATEST_POWER = 20
# To the word of a line: how many names follow it, and what follows the names. "row" is one row,
# "number" one number, "power" one from 0 to 20, and a mark stands for rows with this mark between.
PLAIN = {
    "ring": (0, "row"), "drop": (1, ""), "table": (1, ""), "home": (1, ""), "size": (1, ""), "taken": (1, ""),
    "holds": (1, "row"), "inside": (2, ""), "alike": (2, ""), "above": (0, "number"), "classes": (0, ""),
    "basic": (0, ""),
}
# The same to the word behind "let NAME".
LETS = {
    "made": (0, ","), "table": (0, "/"), "product": (2, ""), "joined": (2, ""), "meet": (2, ""), "colon": (2, ""),
    "quotient": (2, ""), "raised": (1, "power"), "partner": (1, ""), "home": (1, ""),
}


class Line:
    """A line: the word that says what it asks, NAME of a let line or None, the names A and B, the rows."""

    def __init__(self, word, name, names, rows):
        self.word = word
        self.name = name
        self.names = names
        self.rows = rows


def read_line(text):
    """The line of a text."""
    words = text.split(" ")
    if words[0] != "let":
        return line_of(PLAIN.get(words[0]), words[0], None, words[1:])
    if len(words) < 3 or not is_name(words[1]):
        raise NoLine("behind let stand a name and a word")
    return line_of(LETS.get(words[2]), words[2], words[1], words[3:])


def line_of(form, word, name, words):
    """The line of such a form, or None for no form, whose further words are these."""
    if form is None:
        raise NoLine("no line has such a word")
    many, tail = form
    names = words[:many]
    if len(names) < many or not all([is_name(other) for other in names]):
        raise NoLine("names are missing")
    return Line(word, name, names, rows_of(words[many:], tail))


def is_name(word):
    """Whether a word may be the name of an ideal."""
    if len(word) < 1 or len(word) > LONGEST_NAME or word[0] not in LETTERS:
        return False
    return all([sign in LETTERS or sign in FIGURES for sign in word])


def rows_of(words, tail):
    """The list of the rows that the words behind the names are."""
    if tail == "":
        if len(words) > 0:
            raise NoLine("nothing follows here")
        return []
    if tail == "," or tail == "/":
        return [row_of(part) for part in between(words, tail)]
    row = row_of(words)
    if tail != "row" and len(row) != 1:
        raise NoLine("one number stands here")
    if tail == "power" and (row[0] < 0 or row[0] > GREATEST_POWER):
        raise NoLine("an ideal is raised to the 0-th up to the 20th")
    return [row]


def row_of(words):
    """The row of some words, one or more."""
    if len(words) == 0 or not all([is_number(word) for word in words]):
        raise NoLine("one number or more stands here")
    return tuple([int(word) for word in words])


def between(words, mark):
    """The list of the lists of words that stand ahead of, between and behind the marks."""
    parts = [[]]
    for word in words:
        if word == mark:
            parts.append([])
        else:
            parts[-1].append(word)
    return parts
