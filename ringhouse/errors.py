"""The refusals: one class for each, all of them straight under RingError."""


class RingError(ValueError):
    """Any refusal."""


class NoPolynomial(RingError):
    """A row is no ring's polynomial."""


class FallsApart(RingError):
    """A ring's polynomial is the product of left and right."""

    def __init__(self, left, right):
        self.left = left
        self.right = right


class TooGreat(RingError):
    """Something is beyond the bound that is told for it."""


class NotWhole(RingError):
    """The ring is not whole: number / prime is whole and not within it."""

    def __init__(self, prime, number):
        self.prime = prime
        self.number = number


class Nought(RingError):
    """Nought stands where only another number can."""


class NotHeld(RingError):
    """There is no such number, or no such ideal, in the ring."""


class NotApart(RingError):
    """Two things share more than they may."""


class NoPrime(RingError):
    """A whole number is no small prime."""


class TooFar(RingError):
    """A prime number that is not small divides an ideal's corner 0."""


class NotTwo(RingError):
    """The ring's degree is not two."""


class Endless(RingError):
    """There is no end of the units."""


class NoBasic(RingError):
    """The ring has no basic unit."""


class NotUnit(RingError):
    """A number is no unit."""


class Beyond(RingError):
    """An ideal is not within the reach."""


class NoText(RingError):
    """A text is not what is written of such a thing."""


class NoLine(RingError):
    """A line is none that the desk knows."""


class NoRing(RingError):
    """The desk has no ring."""


class NoName(RingError):
    """The word name is no name of the desk's."""

    def __init__(self, name):
        self.name = name


class NoPlaces(RingError):
    """Something has another number of places or rows than the ring's degree."""


class NoIdeal(RingError):
    """A table is not that of an ideal of the ring."""
