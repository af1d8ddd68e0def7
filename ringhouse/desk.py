"""A desk: lines told to it, a ring and names of ideals kept, deeds taken back and done again."""

from ringhouse.deeds import answer_of, ideal_of
from ringhouse.errors import NoName, NoRing
from ringhouse.ring import Ring
from ringhouse.texts import shown_row, shown_table
from ringhouse.words import read_line


class Desk:
    """A desk with a ring, or none, and names of the ring's ideals."""

    def __init__(self):
        # The ring and the dict of the names. A deed makes a new dict and leaves the one that it
        # found as it was: so what was there ahead of it can be kept as it is.
        self.now = (None, {})
        self.earlier = []
        self.later = []

    def tell(self, line):
        """The answer to a line."""
        told = read_line(line)
        if told.word == "ring":
            ring = Ring(told.rows[0])
            self.do((ring, {}))
            return f"degree {ring.degree} measure {ring.measure}"
        ring, names = self.now
        if ring is None:
            raise NoRing("the desk has no ring")
        ideals = [ideal_by(names, name) for name in told.names]
        if told.name is not None:
            ideal = ideal_of(ring, ideals, told)
            self.do((ring, with_name(names, told.name, ideal)))
            return shown_table(ideal)
        if told.word == "drop":
            self.do((ring, without_name(names, told.names[0])))
            return "gone"
        return answer_of(ring, ideals, told)

    def do(self, state):
        """Keep what a deed leaves, so that the deed can be taken back; what was taken back is over."""
        self.earlier.append(self.now)
        self.later = []
        self.now = state

    def back(self):
        """Take back the last deed; whether there was one."""
        if len(self.earlier) == 0:
            return False
        self.later.append(self.now)
        self.now = self.earlier.pop()
        return True

    def again(self):
        """Do once more the deed that was taken back last; whether there was one."""
        if len(self.later) == 0:
            return False
        self.earlier.append(self.now)
        self.now = self.later.pop()
        return True

    def lines(self):
        """The list of the lines that make the same ring and names on a new desk."""
        ring, names = self.now
        if ring is None:
            return []
        told = [f"let {name} table {shown_table(names[name])}" for name in sorted(names)]
        return [f"ring {shown_row(ring.poly)}"] + told


def ideal_by(names, name):
    """The ideal that a name stands for."""
    if name not in names:
        raise NoName(name)
    return names[name]


def with_name(names, name, ideal):
    """The names, and one that stands for an ideal now."""
    found = dict(names)
    found[name] = ideal
    return found


def without_name(names, name):
    """The names but one."""
    return {other: names[other] for other in names if other != name}
