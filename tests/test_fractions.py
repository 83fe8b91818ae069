"""Point 4: fractions."""

import random
import unittest
from fractions import Fraction
from math import gcd

from glidequeue.errors import NoFraction
from glidequeue.fractions import fraction, is_fraction, is_less, least, minus, plus, plus_whole, times
from things import (NOT_WHOLE, PLAIN_THINGS, asked_twice, nested, refused_twice, with_one_less,
                    with_one_more)

MOST = 10 ** 30 - 1
GREAT = (
    (MOST, 1), (-MOST, 1), (1, MOST), (-1, MOST), (MOST, MOST - 1), (MOST - 1, MOST), (-MOST, MOST - 1),
    (1 - MOST, MOST), (2 ** 99, 3 ** 62), (-(3 ** 62), 2 ** 99), (2 ** 99 + 1, 2 ** 99), (2 ** 99, 2 ** 99 + 1),
)
SMALL = tuple((p, q) for p in range(-7, 8) for q in range(1, 8) if gcd(p, q) == 1)


def pair_of(value):
    return (value.numerator, value.denominator)


def chance_pairs(count):
    """Pairs of whole numbers of one to thirty figures, the same ones at every run."""
    source = random.Random(4)
    for turn in range(count):
        p = source.randrange(10 ** source.randrange(1, 31)) * source.choice((-1, 1))
        q = source.randrange(10 ** source.randrange(1, 31)) + 1
        yield p, min(q, MOST)


def chance_fractions(count):
    return [pair_of(Fraction(p, q)) for p, q in chance_pairs(count)]


class IsFraction(unittest.TestCase):

    def tells(self, thing, expected):
        with self.subTest(repr(thing)[:80]):
            self.assertIs(asked_twice(self, is_fraction, thing), expected)

    def test_every_small_pair(self):
        for p in range(-13, 14):
            for q in range(-13, 14):
                self.tells((p, q), q > 0 and gcd(p, q) == 1)

    def test_great_ones(self):
        for one in GREAT + tuple(chance_fractions(100)):
            self.tells(one, True)

    def test_great_ones_with_a_common_divisor(self):
        for p, q in GREAT:
            for divisor in (2, 3, 10 ** 9 + 7):
                self.tells((p * divisor, q * divisor), False)
        self.tells((MOST, MOST), False)
        self.tells((-MOST, MOST), False)

    def test_great_ones_with_a_lower_number_below_nought(self):
        for p, q in GREAT:
            self.tells((p, -q), False)

    def test_nought_is_written_one_way_alone(self):
        self.tells((0, 1), True)
        for q in (2, 3, 100, MOST, 0, -1, -2, -MOST):
            self.tells((0, q), False)

    def test_lower_number_of_nought(self):
        for p in (1, -1, 2, -2, MOST):
            self.tells((p, 0), False)

    def test_no_whole_number_in_a_place(self):
        for thing in NOT_WHOLE:
            for other in (0, 1, 2, -1):
                self.tells((thing, other), False)
                self.tells((other, thing), False)
            self.tells((thing, thing), False)

    def test_truths(self):
        for pair in ((True, 1), (1, True), (True, True), (False, 1), (False, True), (True, 2), (3, True)):
            self.tells(pair, False)

    def test_another_kind_or_number_of_things(self):
        for one in ((0, 1), (1, 2), (-3, 5), (MOST, 1)):
            self.tells(list(one), False)
            self.tells((one,), False)
            self.tells([one], False)
            self.tells(str(one), False)
            for at in range(2):
                self.tells(with_one_less(one, at), False)
                self.tells(one[at], False)
            for at in range(3):
                self.tells(with_one_more(one, at, 1), False)

    def test_nested_things(self):
        for depth in range(1, 8):
            for kind in (list, tuple):
                self.tells(nested((1, 2), depth, kind), False)
                self.tells((nested(1, depth, kind), 1), False)
                self.tells((1, nested(1, depth, kind)), False)

    def test_any_other_thing(self):
        for thing in PLAIN_THINGS:
            self.tells(thing, False)


class FractionOfTwo(unittest.TestCase):

    def comes_to(self, p, q, expected):
        with self.subTest(p=p, q=q):
            told = asked_twice(self, fraction, p, q)
            self.assertEqual(told, expected)
            self.assertEqual([type(told), type(told[0]), type(told[1])], [tuple, int, int])
            self.assertIs(is_fraction(told), True)

    def test_examples(self):
        self.comes_to(1, 2, (1, 2))
        self.comes_to(6, 4, (3, 2))
        self.comes_to(-6, 4, (-3, 2))
        self.comes_to(6, -4, (-3, 2))
        self.comes_to(-6, -4, (3, 2))
        self.comes_to(7, 7, (1, 1))
        self.comes_to(12, 3, (4, 1))
        self.comes_to(3, 12, (1, 4))

    def test_nought_above(self):
        for q in (1, 2, 9, MOST, -1, -2, -MOST):
            self.comes_to(0, q, (0, 1))

    def test_every_small_pair(self):
        for p in range(-13, 14):
            for q in range(-13, 14):
                if q != 0:
                    self.comes_to(p, q, pair_of(Fraction(p, q)))

    def test_great_ones(self):
        for p, q in GREAT + tuple(chance_pairs(100)):
            for divisor in (1, -1, 6, -(10 ** 9)):
                self.comes_to(p * divisor, q * divisor, pair_of(Fraction(p, q)))

    def test_nought_below_is_refused(self):
        for p in (0, 1, -1, MOST, -MOST):
            refused_twice(self, NoFraction, fraction, p, 0)

    def test_other_things_are_refused(self):
        for thing in NOT_WHOLE:
            for other in (0, 1, 2, -3, MOST):
                with self.subTest(thing=thing, other=other):
                    refused_twice(self, NoFraction, fraction, thing, other)
                    refused_twice(self, NoFraction, fraction, other, thing)
            for other in NOT_WHOLE:
                with self.subTest(thing=thing, other=other):
                    refused_twice(self, NoFraction, fraction, thing, other)

    def test_fractions_in_a_place_are_refused(self):
        for one in ((0, 1), (1, 1), (3, 2), (-MOST, 1)):
            refused_twice(self, NoFraction, fraction, one, 1)
            refused_twice(self, NoFraction, fraction, 1, one)
            refused_twice(self, NoFraction, fraction, one, one)


class Reckoning(unittest.TestCase):

    def comes_to(self, function, one, other, expected):
        told = asked_twice(self, function, one, other)
        self.assertEqual(told, pair_of(expected), (function, one, other))
        self.assertEqual([type(told), type(told[0]), type(told[1])], [tuple, int, int])

    def reckon(self, one, other):
        first, second = Fraction(*one), Fraction(*other)
        self.comes_to(plus, one, other, first + second)
        self.comes_to(minus, one, other, first - second)
        self.comes_to(times, one, other, first * second)
        if other[1] == 1:
            self.comes_to(plus_whole, one, other[0], first + second)
        self.assertIs(asked_twice(self, is_less, one, other), first < second, (one, other))

    def test_examples(self):
        self.assertEqual(plus((1, 2), (1, 3)), (5, 6))
        self.assertEqual(plus((1, 6), (1, 3)), (1, 2))
        self.assertEqual(plus((1, 2), (-1, 2)), (0, 1))
        self.assertEqual(minus((1, 2), (1, 3)), (1, 6))
        self.assertEqual(minus((1, 3), (1, 2)), (-1, 6))
        self.assertEqual(minus((5, 6), (5, 6)), (0, 1))
        self.assertEqual(times((2, 3), (3, 4)), (1, 2))
        self.assertEqual(times((-2, 3), (-3, 2)), (1, 1))
        self.assertEqual(times((0, 1), (-3, 2)), (0, 1))
        self.assertIs(is_less((1, 3), (1, 2)), True)
        self.assertIs(is_less((1, 2), (1, 3)), False)
        self.assertIs(is_less((1, 2), (1, 2)), False)
        self.assertIs(is_less((-1, 2), (-1, 3)), True)
        self.assertIs(is_less((-1, 3), (-1, 2)), False)

    def test_all_small_ones(self):
        for one in SMALL:
            for other in SMALL:
                self.reckon(one, other)

    def test_great_ones(self):
        for one in GREAT:
            for other in GREAT + ((0, 1), (1, 1), (-1, 1), (1, 2)):
                self.reckon(one, other)
                self.reckon(other, one)

    def test_chance_ones(self):
        some = chance_fractions(60)
        for one in some:
            for other in some:
                self.reckon(one, other)

    def test_long_ones_with_short_ones(self):
        # Squares that are told may be of any length.
        for long in ((2 ** 999, 3 ** 555), (-(3 ** 555), 2 ** 999), (MOST ** 9, (MOST - 1) ** 9), (6 ** 400 + 1, 6 ** 400)):
            for short in SMALL:
                self.reckon(long, short)
                self.comes_to(times, short, long, Fraction(*short) * Fraction(*long))

    def test_neighbours(self):
        for p, q in GREAT + tuple(chance_fractions(60)):
            for upper, lower in ((p + 1, q), (p - 1, q), (p, q + 1), (p, q - 1)):
                if lower > 0 and gcd(upper, lower) == 1:
                    self.reckon((p, q), (upper, lower))
                    self.reckon((upper, lower), (p, q))


class Least(unittest.TestCase):

    def is_least(self, some, expected):
        told = asked_twice(self, least, some)
        self.assertEqual(told, expected, some)
        self.assertEqual([type(told), type(told[0]), type(told[1])], [tuple, int, int])

    def test_of_one(self):
        for one in ((0, 1), (-3, 2), (7, 1)) + GREAT:
            self.is_least([one], one)

    def test_of_two(self):
        for one in SMALL:
            for other in SMALL:
                self.is_least([one, other], one if Fraction(*one) < Fraction(*other) else other)

    def test_at_every_place(self):
        others = [(1, 2), (0, 1), (3, 1), (-1, 4), (1, 2)]
        for at in range(6):
            self.is_least(others[:at] + [(-1, 3)] + others[at:], (-1, 3))

    def test_one_fraction_twice(self):
        self.is_least([(1, 3), (1, 3)], (1, 3))
        self.is_least([(1, 3), (1, 2), (1, 3)], (1, 3))
        self.is_least([(1, 2), (1, 3), (1, 2)], (1, 3))

    def test_neighbours_of_great_numbers(self):
        some = [(MOST, MOST - 1), (MOST - 1, MOST - 2), (MOST - 2, MOST - 3)]
        self.is_least(some, some[0])
        self.is_least(some[::-1], some[0])

    def test_many(self):
        some = chance_fractions(200)
        self.is_least(some, pair_of(min(Fraction(*one) for one in some)))

    def test_the_list_stays_the_callers_own(self):
        some = [(1, 2), (1, 3), (1, 1)]
        told = least(some)
        some[1] = (9, 1)
        self.assertEqual(told, (1, 3))
        self.assertEqual(least(some), (1, 2))


if __name__ == "__main__":
    unittest.main()
