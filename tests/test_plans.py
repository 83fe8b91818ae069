"""Points 12 and 14: own bounds, plans, and plans with one item more."""

import copy
import random
import unittest
from fractions import Fraction

from glidequeue.plans import own_bounds, plan_of, planned_on
from rows import (
    DEEP, FLAT, MACHINES, MOST_LEADS, RATES, SHORT_ITEMS, as_tuple, chance_line, chance_row, chance_rows,
    is_told_fraction, lead, leads_of, line_for, rows_of_all_sorts, straight_rows,
)
from things import asked_twice, list_of_its_own

ALL = rows_of_all_sorts(12, 420)


def ways(line):
    return [Fraction(step, lead(line)) for step in line[1]]


def top(line, rate):
    return (Fraction(line[2]) * Fraction(rate, 100)) ** 2


def bound_of(machine, items, rate, border):
    """A border's own bound, straight from the words of point 12."""
    if border in (0, len(items)):
        return Fraction(0)
    one, other = items[border - 1], items[border]
    if one[0] != "line" or other[0] != "line":
        return Fraction(0)
    bounds = [top(one, rate), top(other, rate)]
    turn = max(abs(a - b) for a, b in zip(ways(one), ways(other)))
    if turn:
        bounds.append(Fraction(machine[3]) ** 2 / turn ** 2)
    return min(bounds)


def bounds_of(machine, items, rate):
    return [bound_of(machine, items, rate, border) for border in range(len(items) + 1)]


def farthest(machine, items, bounds, border):
    """The least of what each bound lets the border be, each looked at by itself, however far off it is."""
    some = [bounds[border]]
    way = 0
    for j in range(border - 1, -1, -1):
        if items[j][0] != "line":
            break
        way += lead(items[j])
        some.append(bounds[j] + 2 * machine[1] * way)
    way = 0
    for j in range(border, len(items)):
        if items[j][0] != "line":
            break
        way += lead(items[j])
        some.append(bounds[j + 1] + 2 * machine[2] * way)
    return min(some)


def expected_plan(machine, items, bounds):
    return [farthest(machine, items, bounds, border) for border in range(len(items) + 1)]


def keeps(machine, items, bounds, squares):
    """Whether the squares are a plan, by the words of point 12."""
    if not all(0 <= square <= bound for square, bound in zip(squares, bounds)):
        return False
    for i, item in enumerate(items):
        if item[0] == "line":
            if squares[i + 1] > squares[i] + 2 * machine[1] * lead(item):
                return False
            if squares[i] > squares[i + 1] + 2 * machine[2] * lead(item):
                return False
    return True


def told_plan(machine, items, rate):
    return [Fraction(*square) for square in plan_of(machine, items, rate)]


class OwnBounds(unittest.TestCase):

    def test_no_items(self):
        for machine in MACHINES:
            for rate in RATES:
                self.assertEqual(own_bounds(machine, (), rate), [(0, 1)])

    def test_one_item(self):
        for item in (line_for(FLAT, (3, -2), 5),) + SHORT_ITEMS:
            self.assertEqual(own_bounds(FLAT, (item,), 100), [(0, 1), (0, 1)])

    def test_examples(self):
        one, other, aslant = ("line", (4, 0), 3), ("line", (0, 4), 20), ("line", (4, 1), 20)
        for items, rate, between in (
                ((one, other), 100, (9, 1)), ((one, other), 200, (25, 1)), ((one, other), 50, (9, 4)),
                ((other, one), 10, (9, 100)), ((aslant, other), 100, (25, 1)),
                ((("line", (4, 0), 20), aslant), 100, (400, 1)), ((("line", (4, 0), 20), aslant), 37, (1369, 25)),
                ((("line", (4, 0), 20), aslant), 101, (400, 1)), ((("line", (4, 0), 20), aslant), 99, (9801, 25)),
                ((("line", (4, 1), 20), ("line", (4, -1), 20)), 100, (100, 1)),
                ((("line", (4, 1), 20), ("line", (-4, -1), 20)), 100, (25, 4))):
            with self.subTest(items=items, rate=rate):
                self.assertEqual(own_bounds(FLAT, items, rate), [(0, 1), between, (0, 1)])

    def test_one_way_there_is_no_corner(self):
        for machine in MACHINES:
            slow, fast = line_for(machine, (3, 1), 2), line_for(machine, (9, 3), 7)
            for rate in RATES:
                bounds = own_bounds(machine, (slow, fast, slow, fast), rate)
                self.assertEqual(bounds, [(0, 1)] + [as_tuple(Fraction(2 * rate, 100) ** 2)] * 3 + [(0, 1)])
                bounds = own_bounds(machine, (fast, fast), rate)
                self.assertEqual(bounds[1], as_tuple(Fraction(7 * rate, 100) ** 2))

    def test_nought_beside_an_item_that_is_no_line(self):
        line = line_for(FLAT, (3, -2), 5)
        for item in SHORT_ITEMS:
            self.assertEqual(own_bounds(FLAT, (line, item, line), 100), [(0, 1)] * 4)
            self.assertEqual(own_bounds(FLAT, (item, line, line), 100), [(0, 1), (0, 1), (25, 1), (0, 1)])
            self.assertEqual(own_bounds(FLAT, (line, line, item), 100), [(0, 1), (25, 1), (0, 1), (0, 1)])
            self.assertEqual(own_bounds(FLAT, (item, item), 100), [(0, 1)] * 3)

    def test_rows_of_all_sorts(self):
        for machine, items, rate in ALL:
            told = asked_twice(self, own_bounds, machine, items, rate)
            self.assertIs(type(told), list)
            self.assertTrue(all(is_told_fraction(square) for square in told), told)
            self.assertEqual(told, [as_tuple(bound) for bound in bounds_of(machine, items, rate)])
            self.assertEqual(len(told), len(items) + 1)

    def test_each_rate(self):
        items = chance_row(random.Random(5), FLAT, 20, 0.95, 15)
        for rate in range(10, 201):
            told = own_bounds(FLAT, items, rate)
            self.assertEqual(told, [as_tuple(bound) for bound in bounds_of(FLAT, items, rate)])

    def test_the_told_list_is_the_askers_own(self):
        for machine, items, rate in chance_rows(121, 60):
            list_of_its_own(self, own_bounds, machine, items, rate)


class PlanOf(unittest.TestCase):

    def test_no_items(self):
        for machine in MACHINES:
            self.assertEqual(plan_of(machine, (), 100), [(0, 1)])

    def test_items_without_lines(self):
        self.assertEqual(plan_of(FLAT, SHORT_ITEMS, 100), [(0, 1)] * (len(SHORT_ITEMS) + 1))

    def test_examples(self):
        def row(*pairs):
            return tuple(("line", (steps, 0), speed) for steps, speed in pairs)
        for items, squares in (
                (row((5, 20)), (0, 0)),
                (row((1, 20), (1, 20)), (0, 6, 0)),
                (row((2, 20), (1, 20)), (0, 8, 0)),
                (row((1, 20), (1, 20), (1, 20), (1, 20)), (0, 6, 12, 8, 0)),
                (row((1, 2), (1, 20), (1, 20), (1, 20)), (0, 4, 10, 8, 0)),
                (row((10, 20), (10, 5), (10, 20)), (0, 25, 25, 0)),
                (row((10, 4), (1, 20), (10, 20), (10, 3), (1, 3)), (0, 16, 22, 9, 8, 0)),
                (row((1, 20), (20, 20), (1, 20)), (0, 6, 8, 0))):
            with self.subTest(items=items):
                self.assertEqual(plan_of(FLAT, items, 100), [(square, 1) for square in squares])
        self.assertEqual(plan_of(FLAT, row((10, 1), (10, 3), (10, 1)), 50), [(0, 1), (1, 4), (1, 4), (0, 1)])
        self.assertEqual(plan_of(FLAT, (("line", (9, 0), 20), ("line", (0, 9), 20)), 100), [(0, 1), (25, 1), (0, 1)])

    def test_rows_of_all_sorts(self):
        for machine, items, rate in ALL:
            told = asked_twice(self, plan_of, machine, items, rate)
            self.assertIs(type(told), list)
            self.assertTrue(all(is_told_fraction(square) for square in told), told)
            bounds = bounds_of(machine, items, rate)
            squares = [Fraction(*square) for square in told]
            self.assertTrue(keeps(machine, items, bounds, squares), (machine, items, rate))
            self.assertEqual(squares, expected_plan(machine, items, bounds), (machine, items, rate))

    def test_at_no_border_less_than_another_plan(self):
        source = random.Random(122)
        for machine, items, rate in ALL:
            bounds = bounds_of(machine, items, rate)
            told = told_plan(machine, items, rate)
            for turn in range(4):
                lowered = [bound * Fraction(source.choice((0, 1, 1, 2, 3)), 3) for bound in bounds]
                other = expected_plan(machine, items, [min(pair) for pair in zip(lowered, bounds)])
                self.assertTrue(keeps(machine, items, bounds, other))
                self.assertTrue(all(square <= best for square, best in zip(other, told)), (machine, items, rate))

    def test_no_border_can_be_raised_alone(self):
        for machine, items, rate in ALL:
            bounds = bounds_of(machine, items, rate)
            told = told_plan(machine, items, rate)
            self.assertTrue(keeps(machine, items, bounds, told))
            for border in range(len(told)):
                raised = told[:border] + [told[border] + Fraction(1, 10 ** 12)] + told[border + 1:]
                self.assertFalse(keeps(machine, items, bounds, raised), (machine, items, rate, border))

    def test_turned_about(self):
        for machine, items, rate in ALL:
            rails, rise, fall, jump, ticks = machine
            about = plan_of((rails, fall, rise, jump, ticks), items[::-1], rate)
            self.assertEqual(about, plan_of(machine, items, rate)[::-1])
            back = tuple((item[0], tuple(-step for step in item[1]), item[2]) if item[0] == "line" else item
                         for item in items[::-1])
            self.assertEqual(plan_of((rails, fall, rise, jump, ticks), back, rate), about)

    def test_two_rows_with_another_item_between(self):
        source = random.Random(123)
        for machine, items, rate in ALL:
            cut = source.randrange(len(items) + 1)
            one, other = items[:cut], items[cut:]
            if len(items) < 20:
                joined = one + (source.choice(SHORT_ITEMS),) + other
                expected = plan_of(machine, one, rate) + plan_of(machine, other, rate)
                self.assertEqual(plan_of(machine, joined, rate), expected)

    def no_square_less(self, ahead, behind, why):
        self.assertEqual(len(ahead), len(behind))
        for one, other in zip(ahead, behind):
            self.assertLessEqual(Fraction(*one), Fraction(*other), why)

    def test_more_of_the_machine_makes_no_square_less(self):
        source = random.Random(124)
        for machine, items, rate in ALL:
            told = plan_of(machine, items, rate)
            for at in (1, 2, 3):
                if machine[at] < 50:
                    greater = machine[:at] + (source.randrange(machine[at] + 1, 51),) + machine[at + 1:]
                    self.no_square_less(told, plan_of(greater, items, rate), (machine, items, rate, at))
            if rate < 200:
                self.no_square_less(told, plan_of(machine, items, source.randrange(rate + 1, 201)), items)

    def test_other_rails_or_ticks_change_nothing(self):
        for machine, items, rate in ALL:
            told = plan_of(machine, items, rate)
            other = (tuple(101 - rail for rail in machine[0]),) + machine[1:4] + (101 - machine[4],)
            self.assertEqual(plan_of(other, items, rate), told)
            self.assertEqual(own_bounds(other, items, rate), own_bounds(machine, items, rate))

    def test_one_line_more_makes_no_square_less(self):
        source = random.Random(125)
        for machine, items, rate in ALL:
            left = MOST_LEADS - leads_of(items)
            if len(items) < 20 and left > 0:
                longer = items + (chance_line(source, machine, min(left, 100)),)
                told = plan_of(machine, longer, rate)
                self.no_square_less(plan_of(machine, items, rate), told[:-1], longer)

    def test_the_told_list_is_the_askers_own(self):
        for machine, items, rate in chance_rows(126, 60):
            list_of_its_own(self, plan_of, machine, items, rate)

    def test_nothing_hangs_on_what_was_asked_before(self):
        row = (("line", (1, 0), 20), ("line", (1, 0), 20))
        self.assertEqual(plan_of(FLAT, row, 100), [(0, 1), (6, 1), (0, 1)])
        plan_of(DEEP, (("line", (1, 0, 0), 1),), 10)
        plan_of(FLAT, row[::-1] + row, 200)
        self.assertEqual(plan_of(FLAT, row, 10), [(0, 1), (4, 1), (0, 1)])
        self.assertEqual(plan_of(FLAT, row, 100), [(0, 1), (6, 1), (0, 1)])


class PlannedOn(unittest.TestCase):

    def planned(self, machine, items, squares, item, rate):
        """What is told, held against the plan from the beginning; what was handed in stays as it was."""
        handed = list(squares)
        told = asked_twice(self, planned_on, machine, items, handed, item, rate)
        self.assertEqual(handed, squares)
        self.assertIs(type(told), tuple)
        plan, first = told
        self.assertIs(type(plan), list)
        self.assertIs(type(first), int)
        self.assertIsNot(plan, handed)
        self.assertEqual(plan, plan_of(machine, items + (item,), rate))
        changed = [i for i, square in enumerate(squares) if plan[i] != square]
        self.assertEqual(first, min(changed) if changed else len(items) + 1)
        return plan, first

    def test_item_by_item(self):
        for machine, items, rate in ALL:
            squares = [(0, 1)]
            for at, item in enumerate(items):
                squares, first = self.planned(machine, items[:at], squares, item, rate)
                if item[0] != "line" or at == 0 or items[at - 1][0] != "line":
                    self.assertEqual(first, at + 1)
                else:
                    self.assertLessEqual(first, at)

    def test_from_no_items(self):
        for machine in MACHINES:
            for item in SHORT_ITEMS + (line_for(machine, (3, -2), 5),):
                self.assertEqual(planned_on(machine, (), [(0, 1)], item, 100), ([(0, 1), (0, 1)], 1))

    def test_examples(self):
        quick, slow = ("line", (1, 0), 20), ("line", (1, 0), 2)
        for items, item, plan, first in (
                ((quick,), quick, (0, 6, 0), 1), ((quick, quick), quick, (0, 6, 8, 0), 2),
                ((quick, quick, quick), quick, (0, 6, 12, 8, 0), 2), ((quick,), ("wait", 3), (0, 0, 0), 2),
                ((quick, quick), ("mark", "a"), (0, 6, 0, 0), 3), ((quick, quick), slow, (0, 6, 4, 0), 2),
                ((slow,), slow, (0, 4, 0), 1), ((slow, slow), slow, (0, 4, 4, 0), 2),
                ((quick, ("tool", "up")), quick, (0, 0, 0, 0), 3)):
            squares = plan_of(FLAT, items, 100)
            told = self.planned(FLAT, items, squares, item, 100)
            self.assertEqual(told, ([(square, 1) for square in plan], first), (items, item))

    def test_a_border_far_ahead_is_another_one(self):
        items = tuple(("line", (1, 0), 20) for turn in range(10))
        machine = ((100, 100), 50, 1, 9, 10)
        plan, first = self.planned(machine, items, plan_of(machine, items, 100), ("line", (20, 0), 20), 100)
        self.assertEqual(first, 1)

    def test_the_handed_list_and_the_told_one_are_two(self):
        for machine, items, rate in chance_rows(141, 80):
            if not items:
                continue
            squares = plan_of(machine, items[:-1], rate)
            before = copy.deepcopy(squares)
            plan, first = planned_on(machine, items[:-1], squares, items[-1], rate)
            kept = copy.deepcopy(plan)
            squares.clear()
            self.assertEqual(plan, kept)
            squares.extend(before)
            plan.clear()
            self.assertEqual(squares, before)
            self.assertEqual(planned_on(machine, items[:-1], squares, items[-1], rate), (kept, first))

    def test_rows_of_nineteen(self):
        for machine, items, rate in straight_rows():
            if len(items) == 20:
                self.planned(machine, items[:19], plan_of(machine, items[:19], rate), items[19], rate)


if __name__ == "__main__":
    unittest.main()
