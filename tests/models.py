"""Plain and slow models of the runner and the looker, straight from the words of the document, with Fraction."""

import re
from fractions import Fraction
from functools import lru_cache
from math import floor

from rows import as_tuple, is_told_fraction, lead

NUMBER = "(?:0|-?[1-9][0-9]*)"


def top(line, rate):
    return (Fraction(line[2]) * Fraction(rate, 100)) ** 2


def ways(line):
    return [Fraction(step, lead(line)) for step in line[1]]


def own_bound(machine, items, rate, border):
    if border in (0, len(items)):
        return Fraction(0)
    one, other = items[border - 1], items[border]
    if one[0] != "line" or other[0] != "line":
        return Fraction(0)
    bounds = [top(one, rate), top(other, rate)]
    turn = max(abs(a - b) for a, b in zip(ways(one), ways(other)))
    if turn:
        bounds.append(Fraction(machine[3]) ** 2 / turn ** 2)
    return min(bounds)


def nearest(value):
    """Of two as near the one farther from 0."""
    size = floor(abs(value) + Fraction(1, 2))
    return size if value >= 0 else -size


def stand(line, k):
    return tuple(nearest(k * way) for way in ways(line))


def row_of_step(line, k):
    return tuple(behind - ahead for behind, ahead in zip(stand(line, k), stand(line, k - 1)))


def least_ticks(machine, square):
    t = 1
    while t * t * square < machine[4] ** 2:
        t += 1
    return t


def added(place, steps):
    return tuple(number + step for number, step in zip(place, steps))


class ModelRunner:
    """A runner by points 17 to 22; it is told only what it can do."""

    def __init__(self, machine, place):
        self.machine, self.here = machine, place
        self.items, self.steps_done = [], 0
        self.w, self.rate, self.side, self.mark = Fraction(0), 100, "up", ""
        self.held, self.held_w, self.held_n, self.held_j = False, None, None, None

    def leads_to(self):
        place = self.here
        for at, item in enumerate(self.items):
            if item[0] == "line":
                rest = item[1]
                if at == 0:
                    rest = tuple(step - done for step, done in zip(rest, stand(item, self.steps_done)))
                place = added(place, rest)
        return place

    def stops_in(self):
        n = 0
        while n * 2 * self.machine[2] < self.w:
            n += 1
        return n

    def state(self):
        return (self.here, self.leads_to(), as_tuple(self.w), self.rate, self.side, self.mark, list(self.items),
                self.held, self.w == 0, self.stops_in())

    def reach(self, border):
        items = self.items
        if border == len(items) or items[border - 1][0] != "line" or items[border][0] != "line":
            return Fraction(0)
        behind = self.reach(border + 1) + 2 * self.machine[2] * lead(items[border])
        return min(own_bound(self.machine, items, self.rate, border), behind)

    def entries(self, n):
        told = []
        while len(told) < n and self.items and not (self.held and self.w == 0):
            told.append(self.entry())
        return told

    def entry(self):
        item = self.items[0]
        if item[0] == "line":
            return self.step(item)
        self.items = self.items[1:]
        if item[0] == "tool":
            self.side = item[1]
        elif item[0] == "mark":
            self.mark = item[1]
        return item

    def step(self, line):
        rails, rise, fall, jump, ticks = self.machine
        r, e = lead(line) - self.steps_done, self.reach(1)
        square = min(self.w + rise, top(line, self.rate), e + fall * (2 * r - 1))
        behind = min(self.w + 2 * rise, top(line, self.rate), e + 2 * fall * (r - 1))
        if self.held:
            self.held_j += 1
            w, n, j = self.held_w, self.held_n, self.held_j
            square = min(square, w * (2 * (n - j) + 1) / (2 * n))
            behind = min(behind, w * (n - j) / n)
        self.w = behind
        self.steps_done += 1
        row = row_of_step(line, self.steps_done)
        self.here = added(self.here, row)
        if self.steps_done == lead(line):
            self.items, self.steps_done = self.items[1:], 0
        return ("step", row, least_ticks(self.machine, square), as_tuple(square))

    def hold(self):
        n = self.stops_in()
        if not self.held:
            self.held, self.held_w, self.held_n, self.held_j = True, self.w, n, 0
        return n

    def go(self):
        self.held = False
        return len(self.items)

    def drop(self):
        count = len(self.items)
        self.items, self.steps_done = [], 0
        return count


@lru_cache(maxsize=None)
def due_of(items):
    """What is due: pairs of an item's number and the row of a step, None where it is no line."""
    due = []
    for i, item in enumerate(items):
        if item[0] == "line":
            due += [(i, row_of_step(item, k)) for k in range(1, lead(item) + 1)]
        else:
            due.append((i, None))
    return due


def fault_by_itself(machine, items, rate, pair, entry):
    i, row = pair
    if row is None:
        # The kinds count, too: a truth is no whole number, a list no tuple.
        return 0 if repr(entry) == repr(items[i]) else 1
    if type(entry) is not tuple or len(entry) != 4 or repr(entry[:2]) != repr(("step", row)):
        return 1
    t, square = entry[2:]
    if type(t) is not int or not is_told_fraction(square) or square[0] <= 0 or t < 1:
        return 2
    value, goal = Fraction(*square), machine[4] ** 2
    if t * t * value < goal or (t > 1 and (t - 1) ** 2 * value >= goal):
        return 2
    return 3 if value > top(items[i], rate) else 0


@lru_cache(maxsize=None)
def bound_at(machine, items, rate, at):
    """The greatest square ahead of an entry, or behind the last one."""
    due = due_of(items)
    i = due[at][0] if at < len(due) else len(items)
    if 0 < at < len(due) and due[at - 1][0] == i:
        return top(items[i], rate)
    return own_bound(machine, items, rate, i)


def border_is_wrong(machine, items, rate, due, thing, at):
    rails, rise, fall, jump, ticks = machine
    bound = bound_at(machine, items, rate, at)
    ends = [Fraction(*thing[at - 1][3])] if at > 0 and due[at - 1][1] is not None else []
    begins = [Fraction(*thing[at][3])] if at < len(due) and due[at][1] is not None else []
    # If there is such a square at all, the least one that is not too small is one.
    c = max([Fraction(0)] + [s - fall for s in ends] + [s - rise for s in begins])
    return not (c <= bound and all(c <= s + rise for s in ends) and all(c <= s + fall for s in begins))


def expected_look(machine, items, rate, thing):
    """None, or the pair of at and why of point 23."""
    if type(thing) is not list:
        return (0, 1)
    due = due_of(items)
    for at in range(len(due) + 1):
        if at < len(due):
            why = 1 if at == len(thing) else fault_by_itself(machine, items, rate, due[at], thing[at])
        else:
            why = 1 if len(thing) > at else 0
        if why:
            return (at, why)
        if border_is_wrong(machine, items, rate, due, thing, at):
            return (at, 4)
    return None


def writes_item(machine, row):
    """Whether the row writes an item of the machine, by patterns."""
    axes = len(machine[0])
    if re.fullmatch(f"line(?: {NUMBER}){{{axes + 1}}}", row):
        *steps, speed = [int(word) for word in row.split()[1:]]
        return any(steps) and all(-100 <= step <= 100 for step in steps) and 1 <= speed <= 20
    if re.fullmatch(f"wait {NUMBER}", row):
        return 1 <= int(row[5:]) <= 1000
    return bool(re.fullmatch("tool (up|down)|mark [a-z]{1,8}", row))


def words_of(item):
    words = [item[0]]
    for part in item[1:]:
        words += [str(number) for number in part] if type(part) is tuple else [str(part)]
    return " ".join(words)
