"""Points 15 and 16: middle squares, ticks, tapes and their time."""

import copy
import random
import unittest
from fractions import Fraction

from glidequeue.fractions import fraction
from glidequeue.lines import step_rows
from glidequeue.plans import plan_of
from glidequeue.tapes import middles, tape_of, ticks_of, time_of
from rows import (
    DEEP, FLAT, MACHINES, RATES, SHORT_ITEMS, as_tuple, chance_rows, is_told_fraction, lead, line_for,
    rows_of_all_sorts, straight_row,
)
from things import asked_twice, list_of_its_own

ALL = rows_of_all_sorts(15, 250)
SQUARES = ((0, 1), (1, 100), (1, 4), (7, 3), (25, 1), (400, 1), (1600, 1), (10 ** 29 + 1, 10 ** 28))


def expected_middle(machine, line, begin, end, rate, k):
    rise, fall = machine[1:3]
    top = (Fraction(line[2]) * Fraction(rate, 100)) ** 2
    risen = Fraction(*begin) + rise * (2 * k - 1)
    falling = Fraction(*end) + fall * (2 * (lead(line) - k) + 1)
    return min(risen, top, falling)


def fits(machine, square, t):
    return t * t * Fraction(*square) >= machine[4] ** 2


class Middles(unittest.TestCase):

    def told(self, machine, line, begin, end, rate):
        squares = asked_twice(self, middles, machine, line, begin, end, rate)
        self.assertIs(type(squares), list)
        self.assertEqual(len(squares), lead(line))
        self.assertTrue(all(is_told_fraction(square) for square in squares), squares)
        expected = [as_tuple(expected_middle(machine, line, begin, end, rate, k)) for k in range(1, lead(line) + 1)]
        self.assertEqual(squares, expected, (machine, line, begin, end, rate))
        return squares

    def test_rises_goes_at_its_top_and_falls(self):
        line = ("line", (8, 0), 4)
        told = self.told(FLAT, line, (0, 1), (0, 1), 100)
        self.assertEqual(told, [(square, 1) for square in (3, 9, 15, 16, 16, 16, 12, 4)])
        told = self.told(FLAT, line, (9, 1), (1, 2), 100)
        self.assertEqual(told, [(12, 1)] + [(16, 1)] * 5 + [(25, 2), (9, 2)])

    def test_never_comes_to_its_top(self):
        told = self.told(FLAT, ("line", (2, -5), 20), (0, 1), (0, 1), 100)
        self.assertEqual(told, [(square, 1) for square in (3, 9, 15, 12, 4)])
        told = self.told(FLAT, ("line", (2, -5), 20), (7, 3), (0, 1), 200)
        self.assertEqual(told, [(16, 3), (34, 3), (52, 3), (12, 1), (4, 1)])

    def test_a_lead_of_one(self):
        self.assertEqual(self.told(FLAT, ("line", (1, 0), 20), (0, 1), (0, 1), 100), [(3, 1)])
        self.assertEqual(self.told(FLAT, ("line", (0, -1), 20), (30, 1), (0, 1), 100), [(4, 1)])
        self.assertEqual(self.told(FLAT, ("line", (1, 1), 1), (0, 1), (0, 1), 10), [(1, 100)])
        self.assertEqual(self.told(FLAT, ("line", (1, 1), 2), (4, 1), (4, 1), 100), [(4, 1)])

    def test_a_lead_of_a_hundred(self):
        told = self.told(FLAT, ("line", (100, 3), 20), (0, 1), (0, 1), 100)
        self.assertEqual((told[0], told[50], told[-1]), ((3, 1), (303, 1), (4, 1)))
        told = self.told(FLAT, ("line", (-100, 100), 20), (0, 1), (0, 1), 200)
        self.assertEqual((told[56], told[57], max(told)), ((339, 1), (340, 1), (340, 1)))

    def test_all_sorts(self):
        for machine in MACHINES:
            for steps in ((1, 0), (0, -2), (3, -3), (40, 7), (-100, 99)):
                for speed in (1, 7, 20):
                    for begin in SQUARES:
                        for end in SQUARES:
                            self.told(machine, line_for(machine, steps, speed), begin, end, 100)

    def test_each_rate(self):
        for rate in range(10, 201):
            self.told(FLAT, ("line", (9, 12), 6), (1, 4), (2, 3), rate)

    def test_the_told_list_is_the_askers_own(self):
        for begin in SQUARES:
            list_of_its_own(self, middles, FLAT, ("line", (9, 12), 6), begin, (1, 2), 100)


class TicksOf(unittest.TestCase):

    def told(self, machine, square):
        t = asked_twice(self, ticks_of, machine, square)
        self.assertIs(type(t), int)
        self.assertGreaterEqual(t, 1)
        self.assertTrue(fits(machine, square, t), (machine, square, t))
        self.assertFalse(t > 1 and fits(machine, square, t - 1), (machine, square, t))
        return t

    def test_examples(self):
        for ticks, square, t in (
                (60, (1, 1), 60), (60, (4, 1), 30), (60, (400, 1), 3), (60, (1, 100), 600), (60, (3, 1), 35),
                (100, (1, 100), 1000), (100, (1, 200), 1415), (100, (400, 1), 5), (1, (1, 100), 10), (1, (1, 1), 1),
                (1, (400, 1), 1), (7, (49, 1), 1), (7, (48, 1), 2), (7, (50, 1), 1), (100, (1600, 1), 3),
                (100, (9999, 1), 2), (100, (10000, 1), 1), (33, (1089, 4), 2), (33, (1088, 4), 3)):
            machine = ((9, 9), 1, 1, 1, ticks)
            self.assertEqual(self.told(machine, fraction(*square)), t, (ticks, square))

    def test_just_and_all_but_just(self):
        for ticks in (1, 2, 7, 60, 99, 100):
            machine = ((9, 9), 1, 1, 1, ticks)
            for t in list(range(1, 10 * ticks + 1, max(1, ticks // 5))) + [10 * ticks]:
                just = Fraction(ticks, t) ** 2
                for size in (10 ** 6, 10 ** 13):
                    below, above = just - Fraction(1, size * t * t), just + Fraction(1, size * t * t)
                    self.assertEqual(self.told(machine, as_tuple(just)), t)
                    self.assertEqual(self.told(machine, as_tuple(above)), t)
                    self.assertEqual(self.told(machine, as_tuple(below)), t + 1)

    def test_fractions_of_thirty_figures(self):
        source = random.Random(151)
        great = 10 ** 30 - 1
        for machine in MACHINES:
            for p, q in ((great, great - 1), (great - 1, great), (great, 10 ** 28), (10 ** 28, great), (great, 1),
                         (10 ** 29, 10 ** 29 + 1), (great, 2), (10 ** 29 + 7, 3)):
                self.told(machine, fraction(p, q))
            for turn in range(50):
                self.told(machine, fraction(source.randrange(10 ** 29, 10 ** 30), source.randrange(10 ** 29, 10 ** 30)))
                self.told(machine, fraction(source.randrange(10 ** 28, 10 ** 29), source.randrange(10 ** 29, 10 ** 30)))

    def test_one_where_the_square_is_great(self):
        for machine in MACHINES:
            ticks = machine[4]
            for square in ((ticks * ticks, 1), (ticks * ticks + 1, 1), (10 ** 30 - 1, 1), (10 ** 29, 3)):
                self.assertEqual(self.told(machine, square), 1)

    def test_small_squares(self):
        for machine in MACHINES:
            for p in range(1, 30):
                for q in range(1, 30):
                    self.told(machine, fraction(p, q))
            for q in range(30, 201):
                self.told(machine, (1, q))

    def test_nothing_hangs_on_the_rest_of_the_machine(self):
        for machine in MACHINES:
            self.assertEqual(ticks_of(machine[:4] + (60,), (3, 1)), 35)


class TapeOf(unittest.TestCase):

    def told(self, machine, items, rate):
        tape = asked_twice(self, tape_of, machine, items, rate)
        self.assertIs(type(tape), list)
        return tape

    def test_no_items(self):
        for machine in MACHINES:
            for rate in RATES:
                self.assertEqual(self.told(machine, (), rate), [])

    def test_other_items_are_as_they_are(self):
        for machine in MACHINES:
            self.assertEqual(self.told(machine, SHORT_ITEMS, 100), list(SHORT_ITEMS))

    def test_example(self):
        items = (("line", (3, -2), 20), ("line", (1, 0), 2), ("wait", 7), ("mark", "a"), ("line", (0, 1), 1))
        self.assertEqual(self.told(FLAT, items, 100), [
            ("step", (1, -1), 35, (3, 1)), ("step", (1, 0), 20, (9, 1)), ("step", (1, -1), 22, (8, 1)),
            ("step", (1, 0), 30, (4, 1)), ("wait", 7), ("mark", "a"), ("step", (0, 1), 60, (1, 1))])

    def test_rows_of_all_sorts(self):
        for machine, items, rate in ALL:
            tape = self.told(machine, items, rate)
            plan = plan_of(machine, items, rate)
            at = 0
            for i, item in enumerate(items):
                if item[0] != "line":
                    self.assertEqual(repr(tape[at]), repr(item))
                    at += 1
                    continue
                steps = tape[at:at + lead(item)]
                at += lead(item)
                self.assertEqual([entry[1] for entry in steps], step_rows(item))
                self.assertEqual(tuple(map(sum, zip(*[entry[1] for entry in steps]))), item[1])
                for k, entry in enumerate(steps, 1):
                    word, row, t, square = entry
                    self.assertEqual([type(part) for part in entry], [str, tuple, int, tuple])
                    self.assertEqual(word, "step")
                    self.assertTrue(is_told_fraction(square))
                    expected = expected_middle(machine, item, plan[i], plan[i + 1], rate, k)
                    self.assertEqual(square, as_tuple(expected), (machine, items, rate, i, k))
                    self.assertTrue(fits(machine, square, t) and not (t > 1 and fits(machine, square, t - 1)))
            self.assertEqual(at, len(tape))

    def test_a_lesser_rate_takes_no_fewer_ticks(self):
        for machine, items, rate in ALL[:120]:
            slow, quick = tape_of(machine, items, 10 + rate // 20), tape_of(machine, items, rate)
            self.assertGreaterEqual(time_of(slow), time_of(quick))

    def test_the_told_list_is_the_askers_own(self):
        for machine, items, rate in chance_rows(161, 42):
            list_of_its_own(self, tape_of, machine, items, rate)

    def test_nothing_hangs_on_what_was_asked_before(self):
        items = straight_row(FLAT, (3, 4), (5, 6))
        told = tape_of(FLAT, items, 100)
        kept = copy.deepcopy(told)
        tape_of(FLAT, items, 10)
        tape_of(DEEP, (("line", (1, 2, 3), 4),), 100)
        self.assertEqual(told, kept)
        self.assertEqual(tape_of(FLAT, items, 100), kept)


class TimeOf(unittest.TestCase):

    def test_no_entries(self):
        self.assertEqual(asked_twice(self, time_of, []), 0)

    def test_examples(self):
        steps = [("step", (1, 0), 35, (3, 1)), ("step", (1, -1), 20, (9, 1))]
        for tape, time in (
                (steps, 55), (steps + [("wait", 7)], 62), ([("wait", 1000), ("wait", 1)], 1001),
                ([("tool", "up"), ("mark", "a"), ("tool", "down")], 0), ([("mark", "wait")] + steps[:1], 35)):
            self.assertEqual(asked_twice(self, time_of, tape), time)

    def test_told_tapes(self):
        for machine, items, rate in ALL:
            tape = tape_of(machine, items, rate)
            time = asked_twice(self, time_of, tape)
            self.assertIs(type(time), int)
            expected = 0
            for entry in tape:
                expected += {"step": entry[2:3], "wait": entry[1:2]}.get(entry[0], (0,))[0]
            self.assertEqual(time, expected)
            self.assertEqual(time_of(tape[::-1]), time)
            self.assertEqual(time_of(tape[:5]) + time_of(tape[5:]), time)


if __name__ == "__main__":
    unittest.main()
