"""Points 10 and 11: the squares at corners and of lines at a rate."""

import random
import unittest
from fractions import Fraction
from itertools import product
from math import gcd

from glidequeue.corners import corner_square, top_square
from glidequeue.errors import NoRate
from things import NOT_WHOLE, PLAIN_THINGS, asked_twice, nested, refused_twice

FLAT = ((10, 20), 3, 4, 5, 60)
DEEP = ((7, 1, 100), 1, 50, 2, 100)
SMALL = tuple(steps for steps in product(range(-3, 4), repeat=2) if any(steps))
SMALL_DEEP = tuple(steps for steps in product(range(-1, 2), repeat=3) if any(steps))


def line_of(steps, speed=5):
    return ("line", steps, speed)


def ways(steps):
    return [Fraction(step, max(abs(other) for other in steps)) for step in steps]


def expected_square(jump, one, other):
    g = max(abs(a - b) for a, b in zip(ways(one), ways(other)))
    if g == 0:
        return None
    square = Fraction(jump) ** 2 / g ** 2
    return (square.numerator, square.denominator)


class CornerSquare(unittest.TestCase):

    def comes_to(self, machine, one, other, expected):
        told = asked_twice(self, corner_square, machine, line_of(one), line_of(other))
        self.assertEqual(told, expected, (machine, one, other))
        if told is not None:
            self.assertEqual([type(told), type(told[0]), type(told[1])], [tuple, int, int])
            self.assertTrue(told[1] > 0 and gcd(told[0], told[1]) == 1)
        again = asked_twice(self, corner_square, machine, line_of(other), line_of(one))
        self.assertEqual(again, told, (machine, other, one))

    def test_one_way(self):
        for steps in ((1, 0), (0, -1), (3, -2), (-7, 7), (10, 10)):
            for count in range(1, 11):
                self.comes_to(FLAT, steps, tuple(count * step for step in steps), None)
        for steps in ((1, 0, 0), (3, -2, 1), (-5, 5, 0), (0, 4, -9)):
            for count in range(1, 11):
                self.comes_to(DEEP, steps, tuple(count * step for step in steps), None)
        self.comes_to(FLAT, (4, 6), (6, 9), None)
        self.comes_to(FLAT, (100, 50), (2, 1), None)

    def test_the_other_way_about(self):
        self.comes_to(FLAT, (1, 0), (-1, 0), (25, 4))
        self.comes_to(FLAT, (3, -2), (-6, 4), (25, 4))
        self.comes_to(DEEP, (1, 2, 3), (-1, -2, -3), (1, 1))
        self.comes_to(DEEP, (0, 0, 100), (0, 0, -1), (1, 1))

    def test_a_right_angle(self):
        self.comes_to(FLAT, (1, 0), (0, 1), (25, 1))
        self.comes_to(FLAT, (5, 0), (0, -3), (25, 1))
        self.comes_to(FLAT, (4, 4), (4, -4), (25, 4))
        self.comes_to(DEEP, (0, 6, 0), (0, 0, 6), (4, 1))
        self.comes_to(DEEP, (-2, 0, 0), (0, 3, 0), (4, 1))

    def test_the_greatest_axis_counts(self):
        self.comes_to(FLAT, (4, 1), (4, 2), (400, 1))
        self.comes_to(FLAT, (1, 4), (2, 4), (400, 1))
        self.comes_to(FLAT, (4, -1), (4, 2), (400, 9))
        self.comes_to(DEEP, (6, 1, 2), (6, 3, 1), (36, 1))
        self.comes_to(DEEP, (6, 3, 2), (6, 2, -1), (16, 1))
        self.comes_to(DEEP, (3, 3, 1), (3, 2, 3), (9, 1))

    def test_lowest_terms(self):
        self.comes_to(((9, 9), 1, 1, 6, 1), (1, 0), (-1, 0), (9, 1))
        self.comes_to(((9, 9), 1, 1, 10, 1), (4, 0), (4, 3), (1600, 9))
        self.comes_to(((9, 9), 1, 1, 3, 1), (5, 3), (5, -3), (25, 4))

    def test_every_pair_of_small_lines(self):
        for one in SMALL:
            for other in SMALL:
                self.comes_to(FLAT, one, other, expected_square(5, one, other))
        for one in SMALL_DEEP:
            for other in SMALL_DEEP:
                self.comes_to(DEEP, one, other, expected_square(2, one, other))

    def test_every_jump(self):
        for jump in range(1, 51):
            machine = ((100, 100), 51 - jump, 7, jump, 100)
            for one, other in (((3, -2), (5, 1)), ((1, 0), (-1, 0)), ((100, 99), (99, 100)), ((2, 4), (1, 2))):
                self.comes_to(machine, one, other, expected_square(jump, one, other))

    def test_chance_lines(self):
        source = random.Random(10)
        for turn in range(400):
            axes, jump = source.choice((2, 3)), source.randrange(1, 51)
            machine = ((100,) * axes, source.randrange(1, 51), source.randrange(1, 51), jump, 9)
            one, other = [tuple(source.randrange(-100, 101) for axis in range(axes)) for line in range(2)]
            if any(one) and any(other):
                self.comes_to(machine, one, other, expected_square(jump, one, other))

    def test_nothing_hangs_on_speeds_or_on_the_rest_of_the_machine(self):
        for speed in range(1, 21):
            told = corner_square(FLAT, line_of((3, -2), speed), line_of((5, 1), 21 - speed))
            self.assertEqual(told, expected_square(5, (3, -2), (5, 1)))
        for machine in (((1, 1), 1, 1, 5, 1), ((100, 100), 50, 50, 5, 100)):
            self.comes_to(machine, (3, -2), (5, 1), expected_square(5, (3, -2), (5, 1)))


class TopSquare(unittest.TestCase):

    def test_examples(self):
        for speed, rate, square in (
                (1, 10, (1, 100)), (1, 100, (1, 1)), (1, 200, (4, 1)), (20, 10, (4, 1)), (20, 100, (400, 1)),
                (20, 200, (1600, 1)), (3, 50, (9, 4)), (5, 99, (9801, 400)), (7, 101, (499849, 10000)),
                (6, 150, (81, 1)), (1, 11, (121, 10000)), (19, 199, (14295961, 10000))):
            with self.subTest(speed=speed, rate=rate):
                self.assertEqual(top_square(line_of((3, -2), speed), rate), square)

    def test_every_speed_at_every_rate(self):
        for speed in range(1, 21):
            for rate in range(10, 201):
                told = asked_twice(self, top_square, line_of((3, -2), speed), rate)
                square = (Fraction(speed) * Fraction(rate, 100)) ** 2
                self.assertEqual(told, (square.numerator, square.denominator), (speed, rate))
                self.assertEqual([type(told), type(told[0]), type(told[1])], [tuple, int, int])

    def test_does_not_hang_on_the_steps(self):
        for steps in SMALL + SMALL_DEEP + ((100, -100), (100, 100, 100)):
            self.assertEqual(top_square(line_of(steps, 3), 50), (9, 4))

    def test_no_rate(self):
        for line in (line_of((3, -2), 1), line_of((3, -2, 1), 20)):
            for rate in (9, 8, 1, 0, -1, -9, -10, -100, -200, 201, 202, 1000, 10 ** 39, 1 - 10 ** 40, 10 ** 40 - 1):
                with self.subTest(line=line, rate=rate):
                    refused_twice(self, NoRate, top_square, line, rate)

    def test_things_that_are_no_rate(self):
        for line in (line_of((3, -2), 1), line_of((3, -2, 1), 20)):
            for thing in NOT_WHOLE + PLAIN_THINGS + ("100", "10", [100], (100,), (100, 1), [[100]]):
                with self.subTest(line=line, thing=repr(thing)[:80]):
                    refused_twice(self, NoRate, top_square, line, thing)
            for depth in range(1, 9):
                refused_twice(self, NoRate, top_square, line, nested(100, depth, tuple))
                refused_twice(self, NoRate, top_square, line, nested(100, depth, list))

    def test_a_refusal_changes_nothing_told_later(self):
        line = line_of((3, -2), 3)
        self.assertEqual(top_square(line, 50), (9, 4))
        refused_twice(self, NoRate, top_square, line, 9)
        self.assertEqual(top_square(line, 50), (9, 4))


if __name__ == "__main__":
    unittest.main()
