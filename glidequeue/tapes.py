"""Tapes: the lines of a row cut to steps, each with its ticks and its square."""

from glidequeue.corners import top_square
from glidequeue.fractions import least, plus_whole
from glidequeue.items import is_line
from glidequeue.lines import lead_of, step_rows
from glidequeue.plans import plan_of


def middles(machine, line, begin, end, rate):
    rise, fall = machine[1], machine[2]
    top = top_square(line, rate)
    lead = lead_of(line)
    told = []
    for k in range(1, lead + 1):
        risen = plus_whole(begin, rise * (2 * k - 1))
        falling = plus_whole(end, fall * (2 * (lead - k) + 1))
        told.append(least([risen, top, falling]))
    return told


def ticks_of(machine, square):
    enough = 1
    while not are_enough(machine, square, enough):
        enough = 2 * enough
    too_few = enough // 2
    while enough - too_few > 1:
        between = (too_few + enough) // 2
        if are_enough(machine, square, between):
            enough = between
        else:
            too_few = between
    return enough


def are_enough(machine, square, t):
    """Whether a step of the square can be done in t ticks."""
    p, q = square
    ticks = machine[4]
    return t * t * p >= ticks * ticks * q


def step_entry(machine, row, square):
    return ("step", row, ticks_of(machine, square), square)


def tape_of(machine, items, rate):
    plan = plan_of(machine, items, rate)
    tape = []
    for i, item in enumerate(items):
        if is_line(item):
            squares = middles(machine, item, plan[i], plan[i + 1], rate)
            tape.extend([step_entry(machine, row, square) for row, square in zip(step_rows(item), squares)])
        else:
            tape.append(item)
    return tape


def time_of(tape):
    return sum([time_of_entry(entry) for entry in tape])


def time_of_entry(entry):
    if entry[0] == "step":
        return entry[2]
    return entry[1] if entry[0] == "wait" else 0
