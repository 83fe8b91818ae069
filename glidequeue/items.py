"""Items, what a machine can be told: lines, waits, its tool up or down, and marks."""

from glidequeue.errors import OffRails
from glidequeue.machines import is_place
from glidequeue.wholes import is_whole_within

MOST_STEPS = 100
GREATEST_SPEED = 20
LONGEST_WAIT = 1000
SIDES = ("up", "down")
LONGEST_NAME = 8
LETTERS = "abcdefghijklmnopqrstuvwxyz"


def is_item(machine, thing):
    if not isinstance(thing, tuple):
        return False
    if len(thing) == 3:
        word, steps, speed = thing
        return word == "line" and are_steps(machine, steps) and is_whole_within(speed, 1, GREATEST_SPEED)
    if len(thing) == 2:
        word, value = thing
        return is_short_item(word, value)
    return False


def ends(machine, place, items):
    told = []
    here = place
    for at, item in enumerate(items):
        here = place_behind(here, item)
        if not is_place(machine, here):
            raise OffRails(at)
        told.append(here)
    return told


def is_line(item):
    return item[0] == "line"


def place_behind(place, item):
    return moved(place, item[1]) if is_line(item) else place


def moved(place, steps):
    return tuple([number + step for number, step in zip(place, steps)])


def are_steps(machine, thing):
    rails = machine[0]
    if not isinstance(thing, tuple) or len(thing) != len(rails):
        return False
    if not all([is_whole_within(step, -MOST_STEPS, MOST_STEPS) for step in thing]):
        return False
    return any([step != 0 for step in thing])


def is_short_item(word, value):
    """Whether the two make a wait, a tool or a mark."""
    if word == "wait":
        return is_whole_within(value, 1, LONGEST_WAIT)
    if word == "tool":
        return value in SIDES
    return word == "mark" and is_name(value)


def is_name(thing):
    if not isinstance(thing, str) or not 1 <= len(thing) <= LONGEST_NAME:
        return False
    return all([letter in LETTERS for letter in thing])
