"""Point 13: the reason of each border."""

import unittest
from fractions import Fraction

from glidequeue.plans import own_bounds, plan_of
from glidequeue.reasons import reason_of
from rows import FLAT, MACHINES, SHORT_ITEMS, lead, rows_of_all_sorts, straight_row
from things import asked_twice

ALL = rows_of_all_sorts(13, 420)
EVEN = ((100, 100), 2, 2, 9, 10)


def lines_alone(items, low, high):
    return all(item[0] == "line" for item in items[low:high])


def expected_reason(machine, items, rate, border):
    """All borders that would be a reason are looked for, then the one that the words of point 13 name."""
    bounds = [Fraction(*square) for square in own_bounds(machine, items, rate)]
    square = Fraction(*plan_of(machine, items, rate)[border])
    if square == bounds[border]:
        return ("own", border)
    rises = [j for j in range(border) if lines_alone(items, j, border)
             and square == bounds[j] + 2 * machine[1] * sum(lead(item) for item in items[j:border])]
    if rises:
        return ("rise", max(rises))
    falls = [j for j in range(border + 1, len(items) + 1) if lines_alone(items, border, j)
             and square == bounds[j] + 2 * machine[2] * sum(lead(item) for item in items[border:j])]
    return ("fall", min(falls))


class ReasonOf(unittest.TestCase):

    def reasons(self, machine, items, rate):
        told = [asked_twice(self, reason_of, machine, items, rate, border) for border in range(len(items) + 1)]
        for reason in told:
            self.assertEqual((type(reason), len(reason)), (tuple, 2))
            self.assertEqual((type(reason[0]), type(reason[1])), (str, int))
        return told

    def test_rows_of_all_sorts(self):
        words = set()
        for machine, items, rate in ALL:
            told = self.reasons(machine, items, rate)
            expected = [expected_reason(machine, items, rate, border) for border in range(len(items) + 1)]
            self.assertEqual(told, expected, (machine, items, rate))
            words.update(word for word, border in told)
        self.assertEqual(words, {"own", "rise", "fall"})

    def test_no_items(self):
        for machine in MACHINES:
            self.assertEqual(self.reasons(machine, (), 100), [("own", 0)])

    def test_both_ends_and_beside_other_items(self):
        line = ("line", (3, -2), 5)
        for item in SHORT_ITEMS:
            self.assertEqual(self.reasons(FLAT, (line, item, line), 100), [("own", i) for i in range(4)])

    def is_so(self, machine, leads, speeds, expected):
        self.assertEqual(self.reasons(machine, straight_row(machine, leads, speeds), 100), expected)

    def test_examples(self):
        quick = (20,) * 5
        self.is_so(FLAT, (1, 1, 1, 1), quick, [("own", 0), ("rise", 0), ("rise", 0), ("fall", 4), ("own", 4)])
        self.is_so(FLAT, (10, 10, 10), (20, 5, 20), [("own", 0), ("own", 1), ("own", 2), ("own", 3)])
        self.is_so(FLAT, (10, 1, 10, 10, 1), (4, 20, 20, 3, 3),
                   [("own", 0), ("own", 1), ("rise", 1), ("own", 3), ("fall", 5), ("own", 5)])

    def test_rise_ahead_of_fall_where_both_are_so(self):
        self.is_so(EVEN, (4, 4), (20, 20), [("own", 0), ("rise", 0), ("own", 2)])
        self.is_so(EVEN, (2, 2, 2, 2), (20,) * 4, [("own", 0), ("rise", 0), ("rise", 0), ("fall", 4), ("own", 4)])
        self.is_so(((9, 9), 3, 6, 1, 1), (4, 2), (20, 20), [("own", 0), ("rise", 0), ("own", 2)])

    def test_own_ahead_of_both(self):
        self.is_so(EVEN, (1, 1), (2, 20), [("own", 0), ("own", 1), ("own", 2)])
        self.is_so(EVEN, (4, 4), (4, 4), [("own", 0), ("own", 1), ("own", 2)])
        self.is_so(EVEN, (4, 9), (4, 20), [("own", 0), ("own", 1), ("own", 2)])
        self.is_so(EVEN, (9, 4), (20, 4), [("own", 0), ("own", 1), ("own", 2)])

    def test_of_several_ahead_the_greatest(self):
        # Border 1 has the own bound 4, to which the rise from border 0 comes just so, too.
        self.is_so(EVEN, (1, 1, 9), (2, 20, 20), [("own", 0), ("own", 1), ("rise", 1), ("own", 3)])
        self.is_so(EVEN, (4, 1, 9), (4, 20, 20), [("own", 0), ("own", 1), ("rise", 1), ("own", 3)])
        self.is_so(EVEN, (1, 3, 1, 1, 9), (2, 4, 20, 20, 20),
                   [("own", 0), ("own", 1), ("own", 2), ("rise", 2), ("rise", 2), ("own", 5)])

    def test_of_several_behind_the_least(self):
        self.is_so(EVEN, (9, 1, 1), (20, 20, 2), [("own", 0), ("fall", 2), ("own", 2), ("own", 3)])
        self.is_so(EVEN, (9, 1, 4), (20, 20, 4), [("own", 0), ("fall", 2), ("own", 2), ("own", 3)])
        self.is_so(EVEN, (9, 1, 1, 3, 1), (20, 20, 20, 4, 2),
                   [("own", 0), ("fall", 3), ("fall", 3), ("own", 3), ("own", 4), ("own", 5)])

    def test_other_items_end_the_lines(self):
        quick = ("line", (1, 0), 20)
        items = (quick, quick, ("wait", 1), quick, quick, quick)
        self.assertEqual(self.reasons(EVEN, items, 100), [
            ("own", 0), ("rise", 0), ("own", 2), ("own", 3), ("rise", 3), ("fall", 6), ("own", 6)])

    def test_each_rate(self):
        items = straight_row(FLAT, (3, 1, 4, 1, 5, 9, 2, 6), (5, 20, 8, 9, 7, 9, 3, 2))
        for rate in range(10, 201):
            expected = [expected_reason(FLAT, items, rate, border) for border in range(9)]
            self.assertEqual([reason_of(FLAT, items, rate, border) for border in range(9)], expected, rate)


if __name__ == "__main__":
    unittest.main()
