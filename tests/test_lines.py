"""Points 8 and 9: the steps of a line."""

import random
import unittest
from fractions import Fraction
from itertools import product
from math import floor, gcd

from glidequeue.lines import lead_of, stand_at, step_rows, ways_of
from things import asked_twice, list_of_its_own

SMALL = tuple(steps for steps in product(range(-4, 5), repeat=2) if any(steps))
SMALL_DEEP = tuple(steps for steps in product(range(-3, 4), repeat=3) if any(steps))
# Each has a half behind some steps, or the greatest numbers, on one axis or another.
GREAT = (
    (100, 0), (0, 100), (-100, 0), (0, -100), (100, 100), (100, -100), (-100, 100), (-100, -100), (100, 99),
    (-99, 100), (100, 50), (50, -100), (-100, 1), (1, 100), (99, 98), (-97, 64), (100, 0, 0), (0, -100, 0),
    (0, 0, 100), (100, -100, 100), (-100, -100, -100), (100, 50, -25), (-1, 100, 99), (33, -66, 99), (7, -64, -96),
)


def chance_steps(count):
    """Steps of two and of three axes, the same ones at every run."""
    source = random.Random(9)
    told = []
    while len(told) < count:
        steps = tuple(source.randrange(-100, 101) for axis in range(source.choice((2, 3))))
        if any(steps):
            told.append(steps)
    return tuple(told)


ALL = SMALL + SMALL_DEEP + GREAT + chance_steps(60)


def line_of(steps):
    return ("line", steps, 5)


def greatest(steps):
    return sorted(max(step, -step) for step in steps)[-1]


def nearest(value):
    """The whole number nearest to a value, of two as near the one farther from 0."""
    down = floor(value)
    if value - down == Fraction(1, 2):
        return down + 1 if value > 0 else down
    return down if value - down < Fraction(1, 2) else down + 1


class LeadOf(unittest.TestCase):

    def test_examples(self):
        for steps, lead in (((3, -2), 3), ((2, -3), 3), ((0, 1), 1), ((-1, 0), 1), ((5, 5), 5), ((5, -5), 5),
                            ((100, 0), 100), ((0, -100), 100), ((-100, 99), 100), ((1, 2, -3), 3), ((-9, 0, 4), 9),
                            ((0, -7, 0), 7), ((-2, -2, -2), 2)):
            with self.subTest(steps):
                self.assertEqual(lead_of(line_of(steps)), lead)

    def test_all(self):
        for steps in ALL:
            told = asked_twice(self, lead_of, line_of(steps))
            self.assertEqual(told, greatest(steps), steps)
            self.assertIs(type(told), int)

    def test_does_not_hang_on_the_speed(self):
        for speed in range(1, 21):
            self.assertEqual(lead_of(("line", (3, -7), speed)), 7)


class WaysOf(unittest.TestCase):

    def test_examples(self):
        for steps, ways in (
                ((3, -2), ((1, 1), (-2, 3))), ((4, -6), ((2, 3), (-1, 1))), ((0, 5), ((0, 1), (1, 1))),
                ((-5, 0), ((-1, 1), (0, 1))), ((100, -100), ((1, 1), (-1, 1))), ((100, 50), ((1, 1), (1, 2))),
                ((0, 0, -9), ((0, 1), (0, 1), (-1, 1))), ((6, -9, 12), ((1, 2), (-3, 4), (1, 1)))):
            with self.subTest(steps):
                self.assertEqual(ways_of(line_of(steps)), ways)

    def test_all(self):
        for steps in ALL:
            told = asked_twice(self, ways_of, line_of(steps))
            self.assertIs(type(told), tuple)
            self.assertEqual(len(told), len(steps))
            for way, step in zip(told, steps):
                self.assertEqual([type(way), type(way[0]), type(way[1])], [tuple, int, int])
                self.assertTrue(way[1] > 0 and gcd(way[0], way[1]) == 1, (steps, way))
                self.assertEqual(Fraction(*way), Fraction(step, greatest(steps)))


class StandAt(unittest.TestCase):

    def stands(self, steps, k, expected):
        told = asked_twice(self, stand_at, line_of(steps), k)
        self.assertEqual(told, expected, (steps, k))
        self.assertIs(type(told), tuple)
        self.assertEqual({type(number) for number in told}, {int})

    def test_example(self):
        for k, expected in enumerate(((0, 0), (1, -1), (2, -1), (3, -2))):
            self.stands((3, -2), k, expected)

    def test_of_two_as_near_the_one_farther_from_nought(self):
        for k, expected in enumerate(((0, 0), (1, 1), (2, 1))):
            self.stands((2, 1), k, expected)
        for k, expected in enumerate(((0, 0), (-1, -1), (-2, -1))):
            self.stands((-2, -1), k, expected)
        for k, expected in enumerate(((0, 0, 0), (1, -1, 4), (2, -1, 8), (2, -2, 12), (3, -2, 16))):
            self.stands((3, -2, 16), 4 * k, expected)
        self.stands((100, 50), 99, (99, 50))
        self.stands((100, -50), 99, (99, -50))
        self.stands((-50, 100), 1, (-1, 1))

    def test_behind_none_and_behind_all(self):
        for steps in ALL:
            self.stands(steps, 0, (0,) * len(steps))
            self.stands(steps, greatest(steps), steps)

    def test_each_number_of_steps(self):
        for steps in ALL:
            lead = greatest(steps)
            for k in range(lead + 1):
                self.stands(steps, k, tuple(nearest(Fraction(k * step, lead)) for step in steps))

    def test_every_line_of_some_leads(self):
        for lead in (7, 8, 12):
            for step in range(-lead, lead + 1):
                for k in range(lead + 1):
                    here = nearest(Fraction(k * step, lead))
                    self.stands((lead, step), k, (k, here))
                    self.stands((step, -lead), k, (here, -k))
                    self.stands((step, 0, lead), k, (here, 0, k))


class StepRows(unittest.TestCase):

    def test_examples(self):
        for steps, rows in (
                ((3, -2), [(1, -1), (1, 0), (1, -1)]), ((1, 0), [(1, 0)]), ((0, -2), [(0, -1), (0, -1)]),
                ((2, 1), [(1, 1), (1, 0)]), ((-2, -1), [(-1, -1), (-1, 0)]),
                ((4, -4, 1), [(1, -1, 0), (1, -1, 1), (1, -1, 0), (1, -1, 0)])):
            with self.subTest(steps):
                self.assertEqual(step_rows(line_of(steps)), rows)

    def test_as_many_as_the_lead_of_the_right_kind(self):
        for steps in ALL:
            rows = asked_twice(self, step_rows, line_of(steps))
            self.assertIs(type(rows), list)
            self.assertEqual(len(rows), greatest(steps))
            for row in rows:
                self.assertIs(type(row), tuple)
                self.assertEqual(len(row), len(steps))
                for number in row:
                    self.assertIs(type(number), int)
                    self.assertIn(number, (-1, 0, 1))

    def test_they_come_to_the_end_near_the_straight_line(self):
        for steps in ALL:
            lead, here = greatest(steps), (0,) * len(steps)
            for k, row in enumerate(step_rows(line_of(steps)), 1):
                here = tuple(old + number for old, number in zip(here, row))
                for number, step in zip(here, steps):
                    self.assertLessEqual(abs(number - Fraction(k * step, lead)), Fraction(1, 2), (steps, k))
            self.assertEqual(here, steps)

    def test_each_leads_from_stand_to_stand(self):
        for steps in ALL:
            line = line_of(steps)
            for k, row in enumerate(step_rows(line), 1):
                behind, ahead = stand_at(line, k), stand_at(line, k - 1)
                self.assertEqual(row, tuple(new - old for new, old in zip(behind, ahead)))

    def test_the_told_list_is_the_askers_own(self):
        for steps in ALL:
            list_of_its_own(self, step_rows, line_of(steps))

    def test_another_line_asked_of_changes_nothing(self):
        told = step_rows(line_of((3, -2)))
        step_rows(line_of((-3, 2)))
        self.assertEqual(told, [(1, -1), (1, 0), (1, -1)])
        self.assertEqual(step_rows(line_of((3, -2))), told)


if __name__ == "__main__":
    unittest.main()
