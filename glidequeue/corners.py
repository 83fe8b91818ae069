"""The squares that bound a speed: at the corner of two lines, and along a line at a rate."""

from glidequeue.errors import NoRate
from glidequeue.fractions import fraction, is_less, minus
from glidequeue.lines import ways_of
from glidequeue.wholes import is_whole_within

LEAST_RATE = 10
GREATEST_RATE = 200


def corner_square(machine, one, other):
    jump = machine[3]
    p, q = greatest_turn(one, other)
    if p == 0:
        return None
    return fraction(jump * jump * q * q, p * p)


def top_square(line, rate):
    if not is_rate(rate):
        raise NoRate("a rate is a whole number from 10 to 200")
    speed = line[2]
    return fraction(speed * speed * rate * rate, 100 * 100)


def is_rate(thing):
    return is_whole_within(thing, LEAST_RATE, GREATEST_RATE)


def greatest_turn(one, other):
    """The greatest difference of the ways of two lines, axis by axis, without sign."""
    greatest = (0, 1)
    for way, new_way in zip(ways_of(one), ways_of(other)):
        p, q = minus(new_way, way)
        difference = (abs(p), q)
        if is_less(greatest, difference):
            greatest = difference
    return greatest
