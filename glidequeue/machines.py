"""Machines, tuples (rails, rise, fall, jump, ticks), and the places on their rails."""

from glidequeue.wholes import is_whole_within

AXES = (2, 3)
LONGEST_RAIL = 100
GREATEST_CHANGE = 50
MOST_TICKS = 100


def is_machine(thing):
    if not isinstance(thing, tuple) or len(thing) != 5:
        return False
    rails, rise, fall, jump, ticks = thing
    if not are_rails(rails) or not is_whole_within(ticks, 1, MOST_TICKS):
        return False
    return all([is_whole_within(change, 1, GREATEST_CHANGE) for change in (rise, fall, jump)])


def is_place(machine, thing):
    rails = machine[0]
    if not isinstance(thing, tuple) or len(thing) != len(rails):
        return False
    return all([is_whole_within(number, 0, rail) for number, rail in zip(thing, rails)])


def are_rails(thing):
    if not isinstance(thing, tuple) or len(thing) not in AXES:
        return False
    return all([is_whole_within(rail, 1, LONGEST_RAIL) for rail in thing])
