"""Whole numbers: what two share, roots, small primes."""

SMALL_PRIMES = (
    2, 3, 5, 7, 11, 13, 17, 19, 23, 29, 31, 37, 41, 43, 47, 53, 59, 61, 67, 71, 73, 79, 83,
    89, 97, 101, 103, 107, 109, 113, 127, 131, 137, 139, 149, 151, 157, 163, 167, 173, 179,
    181, 191, 193, 197, 199,
)


def shared(a, b):
    """The greatest whole number that divides both; 0 of 0 and 0."""
    great, low = abs(a), abs(b)
    while low != 0:
        great, low = low, great % low
    return great


def shared_by(a, b):
    """The tuple (g, s, t), g the shared number, which is s * a + t * b; a is from 1 on."""
    # Where a divides b, s is 1 and t is 0.
    g, low = a, b % a
    t, later = 0, 1
    while low != 0:
        many = g // low
        g, low = low, g - many * low
        t, later = later, t - many * later
    return (g, (g - t * b) // a, t)


def to_the(base, k):
    """The product of a whole number taken k times."""
    value = 1
    for step in range(k):
        value = value * base
    return value


def root(m):
    """The greatest whole number whose square is at most m."""
    # The guesses fall as long as they are above the root, and the next one is never below it:
    # the first guess that does not fall any more is the root.
    guess = m
    better = (m + 1) // 2
    while better < guess:
        guess = better
        better = (guess + m // guess) // 2
    return guess


def small_primes():
    """The small primes, rising."""
    return list(SMALL_PRIMES)


def parted(m):
    """The tuple (rows, rest): the small primes in m, each with how often, and what is left."""
    rows = []
    rest = m
    for p in SMALL_PRIMES:
        often, rest = divided_out(rest, p)
        if often > 0:
            rows.append((p, often))
    return (rows, rest)


def divided_out(m, p):
    """How often p divides m, and what is left of m."""
    often = 0
    rest = m
    while rest % p == 0:
        rest = rest // p
        often += 1
    return (often, rest)
