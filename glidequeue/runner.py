"""The runner: it does the items that wait one entry after the other, and can be held at any step."""

from glidequeue.corners import is_rate, top_square
from glidequeue.errors import Full, Moving, NoItem, NoRate, OffRails
from glidequeue.fractions import NOUGHT, fraction, least, plus_whole, times
from glidequeue.items import is_item, is_line, moved, place_behind
from glidequeue.lines import lead_of, stand_at, step_rows
from glidequeue.machines import is_place
from glidequeue.plans import kept_by_fall, own_bounds
from glidequeue.tapes import step_entry

MOST_WAITING = 20
FIRST_RATE = 100


class Runner:
    """A machine at a place, with the items that wait for it."""

    def __init__(self, machine, place):
        self.machine = machine
        # Where the first waiting item begins; of a line under way so many steps are done from there.
        self.begun_at = place
        self.done = 0
        self.queue = []
        self.pace = NOUGHT
        self.rate_now = FIRST_RATE
        self.side = "up"
        self.mark = ""
        # While it is held: the square with which it was, within how many steps it stands, how many of them are done.
        self.stopping = None

    def place(self):
        if self.done == 0:
            return self.begun_at
        return moved(self.begun_at, stand_at(self.queue[0], self.done))

    def leads_to(self):
        here = self.begun_at
        for item in self.queue:
            here = place_behind(here, item)
        return here

    def square(self):
        return self.pace

    def rate(self):
        return self.rate_now

    def tool(self):
        return self.side

    def last_mark(self):
        return self.mark

    def waiting(self):
        return list(self.queue)

    def is_held(self):
        return self.stopping is not None

    def stands(self):
        return self.pace == NOUGHT

    def is_halted(self):
        return self.is_held() and self.stands()

    def feed(self, item):
        if not is_item(self.machine, item):
            raise NoItem("the thing is no item of the machine")
        if not is_place(self.machine, place_behind(self.leads_to(), item)):
            raise OffRails(len(self.queue))
        if len(self.queue) >= MOST_WAITING:
            raise Full("twenty items wait")
        self.queue.append(item)
        return len(self.queue)

    def entries(self, n):
        told = []
        while len(told) < n and self.queue and not self.is_halted():
            told.extend(self.entries_of_first(n - len(told)))
        return told

    def entries_of_first(self, most):
        """The next entries of the first waiting item, one or more, but no more than so many."""
        item = self.queue[0]
        if is_line(item):
            return self.steps_of_first(most)
        if item[0] == "tool":
            self.side = item[1]
        if item[0] == "mark":
            self.mark = item[1]
        self.end_first()
        return [item]

    def steps_of_first(self, most):
        line = self.queue[0]
        lead = lead_of(line)
        rows = step_rows(line)
        top = top_square(line, self.rate_now)
        reach = reach_behind_first(self.machine, self.queue, self.rate_now)
        told = []
        while len(told) < most and self.done < lead and not self.is_halted():
            middle = self.next_square(top, reach, lead - self.done)
            told.append(step_entry(self.machine, rows[self.done], middle))
            self.done += 1
        if self.done == lead:
            self.end_first()
        return told

    def next_square(self, top, reach, left):
        """The square of the next step of a line with so many steps left; behind it the runner has its new one."""
        rise, fall = self.machine[1], self.machine[2]
        middles = [plus_whole(self.pace, rise), top, plus_whole(reach, fall * (2 * left - 1))]
        ends = [plus_whole(self.pace, 2 * rise), top, plus_whole(reach, 2 * fall * (left - 1))]
        if self.is_held():
            square, steps, gone = self.stopping
            still = steps - gone - 1
            middles.append(times(square, fraction(2 * still + 1, 2 * steps)))
            ends.append(times(square, fraction(still, steps)))
            self.stopping = (square, steps, gone + 1)
        self.pace = least(ends)
        return least(middles)

    def end_first(self):
        self.begun_at = place_behind(self.begun_at, self.queue[0])
        self.queue = self.queue[1:]
        self.done = 0

    def stops_in(self):
        p, q = self.pace
        in_one = 2 * self.machine[2] * q
        return (p + in_one - 1) // in_one

    def hold(self):
        steps = self.stops_in()
        if not self.is_held():
            self.stopping = (self.pace, steps, 0)
        return steps

    def go(self):
        self.stopping = None
        return len(self.queue)

    def drop(self):
        if not self.is_halted():
            raise Moving("only a runner that is held and stands drops what waits")
        dropped = len(self.queue)
        self.begun_at = self.place()
        self.done = 0
        self.queue = []
        return dropped

    def turn_rate(self, rate):
        if not is_rate(rate):
            raise NoRate("a rate is a whole number from 10 to 200")
        if not self.stands():
            raise Moving("only a runner that stands has its rate turned")
        self.rate_now = rate
        return rate


def reach_behind_first(machine, items, rate):
    """The greatest square behind the first of the items from which all falls that wait can still be kept."""
    return kept_by_fall(machine, items, own_bounds(machine, items, rate))[1]
