"""Machines and rows of items to hand in, the same ones at every run, and how a fraction is held against Fraction."""

import random
from fractions import Fraction
from math import gcd

FLAT = ((10, 20), 3, 4, 5, 60)
DEEP = ((7, 1, 100), 1, 50, 2, 100)
MACHINES = (
    FLAT, DEEP, ((100, 100), 1, 1, 1, 1), ((100, 100), 50, 50, 50, 100), ((100, 100, 100), 2, 1, 7, 33),
    ((50, 60), 1, 3, 20, 10), ((9, 80, 7), 7, 2, 3, 97), ((1, 1), 50, 1, 9, 100), ((100, 1), 1, 50, 10, 7),
)
RATES = (10, 100, 200, 11, 37, 50, 99, 101, 150, 199)
SHORT_ITEMS = (
    ("wait", 1), ("wait", 1000), ("wait", 25), ("tool", "up"), ("tool", "down"), ("mark", "a"), ("mark", "zebrafin"),
)
MOST_LEADS = 300
MOST_ITEMS = 20


def as_tuple(value):
    value = Fraction(value)
    return (value.numerator, value.denominator)


def is_told_fraction(thing):
    """Whether the thing is a tuple of two ints in lowest terms, down to the kinds."""
    if type(thing) is not tuple or [type(part) for part in thing] != [int, int]:
        return False
    return thing[1] > 0 and gcd(thing[0], thing[1]) == 1


def lead(line):
    return max(abs(step) for step in line[1])


def leads_of(items):
    return sum(lead(item) for item in items if item[0] == "line")


def with_axes(steps, machine):
    """The steps of two axes for a machine of two or three."""
    return steps + (0,) * (len(machine[0]) - len(steps))


def line_for(machine, steps, speed):
    return ("line", with_axes(steps, machine), speed)


def chance_line(source, machine, most):
    """A line of a lead of at most so many; some go along one axis, some aslant, some nearly straight on."""
    axes = len(machine[0])
    size = source.choice((1, 2, 3, most, source.randrange(1, most + 1)))
    size = min(size, most)
    steps = [source.choice((0, size, -size, source.randrange(-size, size + 1))) for axis in range(axes)]
    if not any(steps):
        steps[source.randrange(axes)] = source.choice((size, -size))
    return ("line", tuple(steps), source.choice((1, 20, source.randrange(1, 21))))


def chance_row(source, machine, count, lines=0.8, most=40):
    """A row of so many items whose leads come to at most three hundred."""
    items = []
    left = MOST_LEADS
    for at in range(count):
        # Each item behind may still be a line of lead 1.
        room = min(most, 100, left - (count - at - 1))
        if source.random() < lines:
            items.append(chance_line(source, machine, max(1, room)))
            left -= lead(items[-1])
        elif source.random() < 0.1:
            items.append(source.choice(SHORT_ITEMS))
        else:
            items.append(source.choice((("wait", source.randrange(1, 1001)), ("tool", source.choice(("up", "down"))),
                                        ("mark", source.choice(("a", "left", "zzzzzzzz"))))))
    return tuple(items)


def straight_row(machine, leads, speeds):
    """Lines that all go one way, so that no corner bounds them."""
    return tuple(line_for(machine, (count, 0), speed) for count, speed in zip(leads, speeds))


def chance_rows(seed, count):
    """Triples of a machine, a row and a rate: of none to twenty items, many of lines alone."""
    source = random.Random(seed)
    told = []
    for turn in range(count):
        machine = source.choice(MACHINES) if turn % 2 else chance_machine(source)
        items = turn % (MOST_ITEMS + 1)
        lines = source.choice((1, 1, 0.9, 0.6, 0.2))
        most = source.choice((1, 3, 12, 40, 100))
        rate = source.choice((10, 100, 200, source.randrange(10, 201)))
        told.append((machine, chance_row(source, machine, items, lines, most), rate))
    return tuple(told)


def chance_machine(source):
    rails = tuple(source.randrange(1, 101) for axis in range(source.choice((2, 3))))
    great = source.choice((3, 10, 50))
    return (rails,) + tuple(source.randrange(1, great + 1) for change in range(3)) + (source.randrange(1, 101),)


def straight_rows():
    """Rows of lines one way, whose squares are just as far apart as they rise and fall, and nearly so."""
    told = []
    for machine in MACHINES + (((100, 100), 2, 2, 9, 10), ((100, 100), 6, 3, 9, 10), ((100, 100), 4, 8, 1, 10)):
        for leads, speeds in (
                ((1, 1, 1, 1, 1), (20, 20, 20, 20, 20)), ((8, 8), (20, 20)), ((4, 4, 8), (20, 4, 20)),
                ((3, 3, 3, 3, 3, 3), (2, 4, 6, 6, 4, 2)), ((1, 2, 3, 4, 5, 6), (3, 9, 1, 20, 5, 7)),
                ((10, 1, 10, 1, 10), (5, 1, 20, 2, 7)), ((1,) * 20, (20,) * 20),
                ((15,) * 20, tuple(range(1, 21))), ((15,) * 20, tuple(range(20, 0, -1))),
                ((2, 6, 2, 6), (2, 20, 20, 4)), ((3, 1, 3, 1, 3), (20, 20, 20, 20, 20))):
            for rate in (10, 100, 200):
                told.append((machine, straight_row(machine, leads, speeds), rate))
    return tuple(told)


def rows_of_all_sorts(seed, count, every=1):
    """Chance rows, and of the straight ones each first of so many."""
    return chance_rows(seed, count) + straight_rows()[::every]


def chance_place(source, machine):
    return tuple(source.randrange(rail + 1) for rail in machine[0])


def line_between(place, other, speed):
    return ("line", tuple(b - a for a, b in zip(place, other)), speed)


def chance_item_from(source, machine, place, lines=0.8):
    """An item that leads on from the place along the rails, and the place behind it."""
    if source.random() < lines:
        near = source.choice((1, 2, 5, 100))
        other = tuple(min(rail, max(0, number + source.randrange(-near, near + 1)))
                      for number, rail in zip(place, machine[0]))
        if other != place:
            return line_between(place, other, source.choice((1, 20, source.randrange(1, 21)))), other
    return source.choice(SHORT_ITEMS), place


def chance_walk(source, machine, place, count, lines=0.8):
    """A row of so many items along the rails from the place, their leads within three hundred."""
    items = []
    while len(items) < count:
        item, behind = chance_item_from(source, machine, place, lines)
        if leads_of(items) + leads_of([item]) <= MOST_LEADS:
            items.append(item)
            place = behind
        else:
            items.append(source.choice(SHORT_ITEMS))
    return tuple(items)
