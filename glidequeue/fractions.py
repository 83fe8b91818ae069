"""Fractions: tuples (p, q) of whole numbers in lowest terms, q above 0."""

from glidequeue.errors import NoFraction
from glidequeue.wholes import is_whole

NOUGHT = (0, 1)


def is_fraction(thing):
    if not isinstance(thing, tuple) or len(thing) != 2:
        return False
    p, q = thing
    if not is_whole(p) or not is_whole(q):
        return False
    return q > 0 and common_divisor(p, q) == 1


def fraction(p, q):
    if not is_whole(p) or not is_whole(q):
        raise NoFraction("a fraction is made of two whole numbers")
    if q == 0:
        raise NoFraction("the lower number of a fraction is not 0")
    return lowest_terms(p, q)


def plus(one, other):
    p, q = one
    r, s = other
    return lowest_terms(p * s + r * q, q * s)


def plus_whole(one, more):
    p, q = one
    # A common divisor of these two would be one of p and q, too.
    return (p + more * q, q)


def minus(one, other):
    p, q = one
    r, s = other
    return lowest_terms(p * s - r * q, q * s)


def times(one, other):
    # Only crosswise can there be a common divisor, and with one short number of the two it is soon found.
    p, s = lowest_terms(one[0], other[1])
    r, q = lowest_terms(other[0], one[1])
    return (p * r, q * s)


def is_less(one, other):
    p, q = one
    r, s = other
    # Both lower numbers are above 0, so multiplying by them turns nothing round.
    return p * s < r * q


def least(some):
    best = some[0]
    for one in some:
        if is_less(one, best):
            best = one
    return best


def lowest_terms(p, q):
    divisor = common_divisor(p, q)
    if q < 0:
        # The sign belongs to the upper number.
        divisor = -divisor
    return (p // divisor, q // divisor)


def common_divisor(p, q):
    """The greatest common divisor of two whole numbers that are not both 0."""
    high, low = abs(p), abs(q)
    while low != 0:
        high, low = low, high % low
    return high
