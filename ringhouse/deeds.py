"""What the lines of a desk ask for: ideals, and answers.

Each def is handed the ring, the list of the ideals that the line names, and the line's rows.
"""

from ringhouse.above import above
from ringhouse.classes import Classes
from ringhouse.double import meet
from ringhouse.errors import NoIdeal, NoPlaces, TooGreat
from ringhouse.homes import home
from ringhouse.ideals import holds, inside, is_ideal, joined, made, size
from ringhouse.likes import alike
from ringhouse.products import partner, product, raised
from ringhouse.quotients import colon, quotient
from ringhouse.taken import taken
from ringhouse.texts import shown_parts, shown_row, shown_table
from ringhouse.units import basic

# From here on a whole number has more than sixty figures.
TOO_GREAT = 10 ** 60


def let_made(ring, ideals, rows):
    """The ideal made by numbers."""
    need_places(ring, rows)
    return made(ring, rows)


def let_table(ring, ideals, rows):
    """The ideal with a table."""
    if len(rows) != ring.degree:
        raise NoPlaces("a table has as many rows as the ring's degree says")
    need_places(ring, rows)
    table = tuple(rows)
    if not is_ideal(ring, table):
        raise NoIdeal("this is not the table of an ideal of the ring")
    return table


def let_product(ring, ideals, rows):
    """The product of two ideals."""
    return product(ring, ideals[0], ideals[1])


def let_joined(ring, ideals, rows):
    """The joined ideal of two."""
    return joined(ideals[0], ideals[1])


def let_meet(ring, ideals, rows):
    """The meet of two ideals."""
    return meet(ideals[0], ideals[1])


def let_colon(ring, ideals, rows):
    """The colon of two ideals."""
    return colon(ring, ideals[0], ideals[1])


def let_quotient(ring, ideals, rows):
    """The quotient of two ideals."""
    return quotient(ring, ideals[0], ideals[1])


def let_raised(ring, ideals, rows):
    """An ideal to the k-th."""
    return raised(ring, ideals[0], rows[0][0])


def let_partner(ring, ideals, rows):
    """The partner of an ideal."""
    return partner(ring, ideals[0])


def let_home(ring, ideals, rows):
    """The home of an ideal."""
    return home(ring, ideals[0])


def ask_table(ring, ideals, rows):
    """The table of an ideal."""
    return shown_table(ideals[0])


def ask_home(ring, ideals, rows):
    """The home of an ideal, written."""
    return shown_table(home(ring, ideals[0]))


def ask_size(ring, ideals, rows):
    """The norm of an ideal."""
    return str(size(ideals[0]))


def ask_taken(ring, ideals, rows):
    """An ideal taken into primes."""
    return shown_parts(taken(ring, ideals[0]))


def ask_holds(ring, ideals, rows):
    """Whether an ideal holds a number."""
    need_places(ring, rows)
    return yes_or_no(holds(ideals[0], rows[0]))


def ask_inside(ring, ideals, rows):
    """Whether an ideal is inside another one."""
    return yes_or_no(inside(ideals[0], ideals[1]))


def ask_alike(ring, ideals, rows):
    """Whether two ideals are alike."""
    return yes_or_no(alike(ring, ideals[0], ideals[1]) is not None)


def ask_above(ring, ideals, rows):
    """The primes above a small prime."""
    return shown_parts([(prime, often) for prime, often, degree in above(ring, rows[0][0])])


def ask_classes(ring, ideals, rows):
    """The divisors of the ring's classes."""
    divisors = Classes(ring).divisors()
    return shown_row(divisors) if len(divisors) > 0 else "one"


def ask_basic(ring, ideals, rows):
    """The basic unit of the ring."""
    return shown_row(basic(ring))


LET_DEEDS = {
    "made": let_made, "table": let_table, "product": let_product, "joined": let_joined, "meet": let_meet,
    "colon": let_colon, "quotient": let_quotient, "raised": let_raised, "partner": let_partner, "home": let_home,
}
ASKS = {
    "table": ask_table, "home": ask_home, "size": ask_size, "taken": ask_taken, "holds": ask_holds,
    "inside": ask_inside, "alike": ask_alike, "above": ask_above, "classes": ask_classes, "basic": ask_basic,
}


def ideal_of(ring, ideals, line):
    """The ideal that a let line makes."""
    deed = LET_DEEDS[line.word]
    ideal = deed(ring, ideals, line.rows)
    if size(ideal) >= TOO_GREAT:
        raise TooGreat("the norm of a named ideal has at most sixty figures")
    return ideal


def answer_of(ring, ideals, line):
    """The answer to a line that asks."""
    ask = ASKS[line.word]
    return ask(ring, ideals, line.rows)


def need_places(ring, rows):
    """Refuse rows of another number of places than the ring's degree."""
    if any([len(row) != ring.degree for row in rows]):
        raise NoPlaces("a number has as many places as the ring's degree says")


def yes_or_no(holding):
    """The answer to whether something holds."""
    return "yes" if holding else "no"
