"""Point 5: machines and their places."""

import unittest

from glidequeue.machines import is_machine, is_place
from things import (NOT_WHOLE, PLAIN_THINGS, asked_twice, nested, with_one_changed, with_one_less,
                    with_one_more)

FLAT = ((10, 20), 3, 4, 5, 60)
DEEP = ((7, 1, 100), 1, 50, 2, 100)
MACHINES = (FLAT, DEEP)
# The greatest number in each place of a machine behind its rails.
GREATEST = {1: 50, 2: 50, 3: 50, 4: 100}


class IsMachine(unittest.TestCase):

    def tells(self, thing, expected):
        with self.subTest(repr(thing)[:80]):
            self.assertIs(asked_twice(self, is_machine, thing), expected)

    def test_machines(self):
        for machine in MACHINES:
            self.tells(machine, True)
        self.tells(((1, 1), 1, 1, 1, 1), True)
        self.tells(((1, 1, 1), 1, 1, 1, 1), True)
        self.tells(((100, 100), 50, 50, 50, 100), True)
        self.tells(((100, 100, 100), 50, 50, 50, 100), True)

    def test_each_number_at_its_bounds(self):
        for machine in MACHINES:
            for at, greatest in GREATEST.items():
                for number in (1, 2, greatest - 1, greatest):
                    self.tells(with_one_changed(machine, at, number), True)
                for number in (0, -1, -greatest, greatest + 1, 10 ** 39, -(10 ** 39)):
                    self.tells(with_one_changed(machine, at, number), False)

    def test_each_rail_at_its_bounds(self):
        for machine in MACHINES:
            for at in range(len(machine[0])):
                for rail in (1, 2, 99, 100):
                    self.tells((with_one_changed(machine[0], at, rail),) + machine[1:], True)
                for rail in (0, -1, -100, 101, 10 ** 39, -(10 ** 39)):
                    self.tells((with_one_changed(machine[0], at, rail),) + machine[1:], False)

    def test_no_whole_number_in_a_place(self):
        for machine in MACHINES:
            for thing in NOT_WHOLE:
                for at in GREATEST:
                    self.tells(with_one_changed(machine, at, thing), False)
                for at in range(len(machine[0])):
                    self.tells((with_one_changed(machine[0], at, thing),) + machine[1:], False)

    def test_no_tuple_of_rails(self):
        for machine in MACHINES:
            for thing in (list(machine[0]), 10, True, None, "10", "ab", "abc", (), [], (machine[0],), [machine[0]]):
                self.tells((thing,) + machine[1:], False)
            for depth in range(1, 7):
                self.tells((nested(machine[0], depth, tuple),) + machine[1:], False)
                self.tells((nested(machine[0], depth, list),) + machine[1:], False)

    def test_number_of_rails(self):
        for count in range(8):
            self.tells(((10,) * count,) + FLAT[1:], count in (2, 3))

    def test_a_rail_left_out_put_in_or_twice(self):
        for at in range(2):
            self.tells((with_one_less(FLAT[0], at),) + FLAT[1:], False)
        for at in range(3):
            self.tells((with_one_less(DEEP[0], at),) + DEEP[1:], True)
            self.tells((with_one_more(FLAT[0], at, 10),) + FLAT[1:], True)
            self.tells((with_one_more(DEEP[0], at, DEEP[0][at]),) + DEEP[1:], False)
        for thing in NOT_WHOLE:
            self.tells((with_one_more(FLAT[0], 2, thing),) + FLAT[1:], False)

    def test_a_thing_left_out_put_in_or_twice(self):
        for machine in MACHINES:
            for at in range(5):
                self.tells(with_one_less(machine, at), False)
                self.tells(with_one_more(machine, at, machine[at]), False)
                self.tells(machine[:at], False)
            for at in range(6):
                for thing in (1, None, (), machine):
                    self.tells(with_one_more(machine, at, thing), False)
            self.tells(machine + machine, False)

    def test_another_order(self):
        for machine in MACHINES:
            self.tells(machine[::-1], False)
            self.tells(machine[1:] + machine[:1], False)

    def test_another_kind(self):
        for machine in MACHINES:
            self.tells(list(machine), False)
            self.tells([list(machine[0])] + list(machine[1:]), False)
            self.tells(str(machine), False)
            self.tells(machine[0] + machine[1:], False)
            for depth in range(1, 7):
                self.tells(nested(machine, depth, tuple), False)
                self.tells(nested(machine, depth, list), False)

    def test_any_other_thing(self):
        for thing in PLAIN_THINGS:
            self.tells(thing, False)


class IsPlace(unittest.TestCase):

    def tells(self, machine, thing, expected):
        with self.subTest(machine=machine, thing=repr(thing)[:80]):
            self.assertIs(asked_twice(self, is_place, machine, thing), expected)

    def test_ends_of_the_rails(self):
        for machine in MACHINES:
            self.tells(machine, (0,) * len(machine[0]), True)
            self.tells(machine, machine[0], True)
            self.tells(machine, tuple(rail // 2 for rail in machine[0]), True)

    def test_each_number_at_its_bounds(self):
        for machine in MACHINES:
            for place in ((0,) * len(machine[0]), machine[0]):
                for at, rail in enumerate(machine[0]):
                    for number in (0, 1, rail - 1, rail):
                        self.tells(machine, with_one_changed(place, at, number), True)
                    for number in (-1, -rail, rail + 1, 10 ** 39, -(10 ** 39)):
                        self.tells(machine, with_one_changed(place, at, number), False)

    def test_each_axis_has_its_own_rail(self):
        self.tells(FLAT, (10, 20), True)
        self.tells(FLAT, (20, 10), False)
        self.tells(DEEP, (7, 1, 100), True)
        self.tells(DEEP, (1, 7, 100), False)
        self.tells(DEEP, (100, 1, 7), False)

    def test_no_whole_number_in_a_place(self):
        for machine in MACHINES:
            place = (1,) * len(machine[0])
            for thing in NOT_WHOLE:
                for at in range(len(place)):
                    self.tells(machine, with_one_changed(place, at, thing), False)
                self.tells(machine, (thing,) * len(place), False)

    def test_one_number_more_or_less(self):
        for machine in MACHINES:
            for place in ((0,) * len(machine[0]), machine[0]):
                for at in range(len(place)):
                    self.tells(machine, with_one_less(place, at), False)
                    self.tells(machine, with_one_more(place, at, place[at]), False)
                self.tells(machine, with_one_more(place, len(place), 0), False)
                self.tells(machine, place + place, False)
        self.tells(FLAT, (1, 1, 1), False)
        self.tells(DEEP, (1, 1), False)

    def test_another_kind(self):
        for machine in MACHINES:
            place = (1,) * len(machine[0])
            self.tells(machine, list(place), False)
            self.tells(machine, str(place), False)
            self.tells(machine, "1" * len(place), False)
            self.tells(machine, machine, False)
            for depth in range(1, 8):
                self.tells(machine, nested(place, depth, tuple), False)
                self.tells(machine, nested(place, depth, list), False)

    def test_any_other_thing(self):
        for machine in MACHINES:
            for thing in PLAIN_THINGS:
                self.tells(machine, thing, False)

    def test_one_machine_asked_of_does_not_change_another(self):
        self.tells(FLAT, (10, 20), True)
        self.tells(((5, 5), 1, 1, 1, 1), (10, 20), False)
        self.tells(FLAT, (10, 20), True)


if __name__ == "__main__":
    unittest.main()
