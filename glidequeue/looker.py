"""The looker: whether a thing is a tape of a row at a rate."""

from glidequeue.corners import top_square
from glidequeue.errors import NoTape
from glidequeue.fractions import NOUGHT, is_fraction, is_less, plus_whole
from glidequeue.items import is_item, is_line
from glidequeue.lines import lead_of, step_rows
from glidequeue.plans import own_bounds
from glidequeue.tapes import are_enough
from glidequeue.wholes import is_whole

NOT_DUE = 1
WRONG_TICKS = 2
ABOVE_TOP = 3
NO_BORDER = 4


def look(machine, items, rate, thing):
    if not isinstance(thing, list):
        raise NoTape(0, NOT_DUE)
    due = due_entries(items, rate)
    bounds = bounds_between(machine, items, rate)
    ended = None
    for at, expected in enumerate(due):
        if at == len(thing):
            raise NoTape(at, NOT_DUE)
        why = fault_of_entry(machine, expected, thing[at])
        if why is not None:
            raise NoTape(at, why)
        begun = square_of(thing[at])
        if not can_meet(machine, bounds[at], ended, begun):
            raise NoTape(at, NO_BORDER)
        ended = begun
    if len(thing) > len(due):
        raise NoTape(len(due), NOT_DUE)
    if not can_meet(machine, bounds[-1], ended, None):
        raise NoTape(len(due), NO_BORDER)


def due_entries(items, rate):
    """For each entry the item that is due, or ("step", the row that is due, the top square of its line)."""
    due = []
    for item in items:
        if is_line(item):
            top = top_square(item, rate)
            due.extend([("step", row, top) for row in step_rows(item)])
        else:
            due.append(item)
    return due


def bounds_between(machine, items, rate):
    """The greatest square ahead of each entry, and behind the last one."""
    own = own_bounds(machine, items, rate)
    bounds = []
    for i, item in enumerate(items):
        bounds.append(own[i])
        if is_line(item):
            bounds.extend([top_square(item, rate)] * (lead_of(item) - 1))
    return bounds + [own[-1]]


def fault_of_entry(machine, expected, entry):
    """What is wrong with the entry by itself, or None."""
    if expected[0] != "step":
        # Only an item has whole numbers for sure: a truth may be equal to one.
        return None if is_item(machine, entry) and entry == expected else NOT_DUE
    word, row, top = expected
    if not is_step_with(row, entry):
        return NOT_DUE
    if not is_timed(machine, entry[2], entry[3]):
        return WRONG_TICKS
    return ABOVE_TOP if is_less(top, entry[3]) else None


def is_step_with(row, entry):
    if not isinstance(entry, tuple) or len(entry) != 4 or entry[0] != "step":
        return False
    return entry[1] == row and all([is_whole(number) for number in entry[1]])


def is_timed(machine, t, square):
    """Whether the square is one of a step, and t the least number of ticks for it."""
    if not is_whole(t) or t < 1 or not is_fraction(square) or not is_less(NOUGHT, square):
        return False
    return are_enough(machine, square, t) and not are_enough(machine, square, t - 1)


def square_of(entry):
    return entry[3] if entry[0] == "step" else None


def can_meet(machine, bound, ended, begun):
    """Whether a border of the bound has a square between the steps that end and begin there; None is no step."""
    rise, fall = machine[1], machine[2]
    lows = [NOUGHT]
    highs = [bound]
    if ended is not None:
        lows.append(plus_whole(ended, -fall))
        highs.append(plus_whole(ended, rise))
    if begun is not None:
        lows.append(plus_whole(begun, -rise))
        highs.append(plus_whole(begun, fall))
    return not any([is_less(high, low) for low in lows for high in highs])
