"""Points 17 to 22: runners."""

import random
import unittest
from fractions import Fraction

from glidequeue.errors import Full, Moving, NoItem, NoRate, OffRails
from glidequeue.lines import step_rows
from glidequeue.runner import Runner
from glidequeue.tapes import tape_of
from models import ModelRunner
from rows import (
    DEEP, FLAT, MACHINES, SHORT_ITEMS, chance_item_from, chance_machine, chance_place, chance_walk, is_told_fraction,
    leads_of,
)
from things import NOT_WHOLE, PLAIN_THINGS, nested, refused_twice, with_one_less, with_one_more

WIDE = ((100, 100), 3, 4, 5, 60)
KINDS = [tuple, tuple, tuple, int, str, str, list, bool, bool, int]


def state_of(runner):
    """All that a runner tells of itself."""
    return (runner.place(), runner.leads_to(), runner.square(), runner.rate(), runner.tool(), runner.last_mark(),
            runner.waiting(), runner.is_held(), runner.stands(), runner.stops_in())


def fed(machine, place, items, rate=100):
    runner = Runner(machine, place)
    runner.turn_rate(rate)
    for item in items:
        runner.feed(item)
    return runner


def squares_of(entries):
    return [entry[3] for entry in entries if entry[0] == "step"]


def wholes(squares):
    return [(square, 1) for square in squares]


def rows_of(entries):
    """The rows of the steps, and the other items."""
    return [entry[1] if entry[0] == "step" else entry for entry in entries]


def rows_due(items):
    due = []
    for item in items:
        due += step_rows(item) if item[0] == "line" else [item]
    return due


class RunnerCase(unittest.TestCase):

    def is_so(self, runner, model):
        told = state_of(runner)
        self.assertEqual(repr(told), repr(model.state()))
        self.assertEqual(repr(state_of(runner)), repr(told))
        self.assertEqual([type(part) for part in told], KINDS)
        self.assertTrue(is_told_fraction(told[2]))

    def unchanged_by(self, runner, error, deed, *things):
        """The deed is refused twice, and the runner tells what it told."""
        before = repr(state_of(runner))
        refusals = refused_twice(self, error, deed, *things)
        self.assertEqual(repr(state_of(runner)), before)
        return refusals


class NewRunner(RunnerCase):

    def test_all_that_it_tells(self):
        for machine in MACHINES:
            for place in ((0,) * len(machine[0]), machine[0]):
                runner = Runner(machine, place)
                self.assertEqual(state_of(runner), (place, place, (0, 1), 100, "up", "", [], False, True, 0))
                self.is_so(runner, ModelRunner(machine, place))
                self.assertEqual(runner.entries(0), [])
                self.assertEqual(runner.entries(100), [])
                self.is_so(runner, ModelRunner(machine, place))

    def test_the_told_lists_are_the_askers_own(self):
        runner = fed(FLAT, (1, 2), (("line", (3, -2), 5), ("mark", "a")))
        for spoil in (list.clear, list.reverse, lambda row: row.append(("wait", 1)), lambda row: row.pop(0)):
            told = runner.waiting()
            spoil(told)
            self.assertEqual(runner.waiting(), [("line", (3, -2), 5), ("mark", "a")])
        kept = runner.waiting()
        entries = runner.entries(2)
        copied = list(entries)
        entries.clear()
        self.assertEqual(runner.entries(2), [tape_of(FLAT, kept[:1], 100)[2], ("mark", "a")])
        self.assertEqual(kept, [("line", (3, -2), 5), ("mark", "a")])
        self.assertEqual(copied, tape_of(FLAT, kept[:1], 100)[:2])


class Feed(RunnerCase):

    def test_how_many_wait(self):
        runner = Runner(FLAT, (1, 2))
        items = (("line", (3, -2), 5),) + SHORT_ITEMS + (("line", (-4, 20), 1), ("line", (10, -20), 20))
        for at, item in enumerate(items):
            self.assertEqual(runner.feed(item), at + 1)
            self.assertEqual(runner.waiting(), list(items[:at + 1]))
        self.assertEqual(runner.leads_to(), (10, 0))
        self.assertEqual(runner.place(), (1, 2))
        self.assertTrue(runner.stands())

    def test_no_item(self):
        runner = fed(FLAT, (1, 2), (("line", (3, -2), 5), ("wait", 9)))
        runner.entries(1)
        for thing in NOT_WHOLE + PLAIN_THINGS + (
                ("line", (0, 0), 5), ("line", (1, 2, 3), 5), ("line", [1, 2], 5), ["line", (1, 2), 5],
                ("line", (1, 2), 0), ("line", (1, 2), 21), ("line", (101, 0), 5), ("line", (True, 0), 5),
                ("line", (1, 0), True), ("wait", 0), ("wait", 1001), ("wait", True), ("wait", "1"), ("tool", "left"),
                ("tool", "UP"), ("mark", ""), ("mark", "abcdefghi"), ("mark", "A"), ("mark", "a b"), ("mark", 1),
                ("step", (1, 0), 5, (1, 1)), ("halt", 1), nested(("wait", 1), 1, tuple), nested(("wait", 1), 1, list)):
            self.unchanged_by(runner, NoItem, runner.feed, thing)
        self.unchanged_by(Runner(DEEP, (0, 0, 0)), NoItem, Runner(DEEP, (0, 0, 0)).feed, ("line", (1, 0), 5))

    def test_parts_left_out_or_put_in(self):
        runner = Runner(FLAT, (1, 2))
        for item in (("line", (3, -2), 5),) + SHORT_ITEMS:
            for at in range(len(item)):
                self.unchanged_by(runner, NoItem, runner.feed, with_one_less(item, at))
                self.unchanged_by(runner, NoItem, runner.feed, with_one_more(item, at, 1))

    def test_off_rails(self):
        runner = Runner(FLAT, (1, 2))
        for steps in ((-2, 0), (10, 0), (0, -3), (0, 19), (100, 100), (-100, 1)):
            for refusal in self.unchanged_by(runner, OffRails, runner.feed, ("line", steps, 5)):
                self.assertEqual(refusal.at, 0)
        for count in range(1, 20):
            runner.feed(("wait", 1))
            for refusal in self.unchanged_by(runner, OffRails, runner.feed, ("line", (10, 0), 5)):
                self.assertEqual(refusal.at, count)

    def test_off_rails_from_where_all_that_waits_leads(self):
        runner = fed(FLAT, (0, 0), (("line", (10, 0), 5),))
        self.unchanged_by(runner, OffRails, runner.feed, ("line", (1, 0), 5))
        runner.entries(4)
        # It is at 4 of 10, but the rest of the line is still to be done.
        for refusal in self.unchanged_by(runner, OffRails, runner.feed, ("line", (1, 0), 5)):
            self.assertEqual(refusal.at, 1)
        self.assertEqual(runner.feed(("line", (-10, 0), 5)), 2)
        self.assertEqual(runner.leads_to(), (0, 0))
        for refusal in self.unchanged_by(runner, OffRails, runner.feed, ("line", (-1, 0), 5)):
            self.assertEqual(refusal.at, 2)

    def test_the_ends_of_the_rails_are_within(self):
        runner = Runner(FLAT, (1, 2))
        for at, steps in enumerate(((9, 18), (-10, -20), (10, 0), (0, 20))):
            self.assertEqual(runner.feed(("line", steps, 5)), at + 1)
        self.assertEqual(runner.leads_to(), (10, 20))

    def test_full(self):
        runner = Runner(FLAT, (1, 2))
        for count in range(20):
            self.assertEqual(runner.feed(("line", (1, 0), 5) if count % 2 == 0 else ("line", (-1, 0), 5)), count + 1)
        for item in SHORT_ITEMS + (("line", (1, 0), 5),):
            self.unchanged_by(runner, Full, runner.feed, item)
        self.assertEqual(len(runner.waiting()), 20)
        runner.entries(1)
        self.assertEqual(runner.feed(("wait", 1)), 20)
        self.unchanged_by(runner, Full, runner.feed, ("wait", 1))

    def test_full_with_a_line_under_way(self):
        runner = fed(WIDE, (0, 0), (("line", (9, 0), 5),) + (("wait", 1),) * 19)
        runner.entries(8)
        self.unchanged_by(runner, Full, runner.feed, ("wait", 1))
        runner.entries(1)
        self.assertEqual(runner.feed(("wait", 2)), 20)

    def test_the_first_refusal_that_is_due(self):
        runner = fed(FLAT, (1, 2), (("wait", 1),) * 20)
        for refusal in self.unchanged_by(runner, OffRails, runner.feed, ("line", (10, 0), 5)):
            self.assertEqual(refusal.at, 20)
        self.unchanged_by(runner, NoItem, runner.feed, ("line", (10, 0), 21))
        self.unchanged_by(runner, NoItem, runner.feed, ("line", (101, 0), 5))
        self.unchanged_by(runner, NoItem, runner.feed, None)
        runner = Runner(FLAT, (1, 2))
        self.unchanged_by(runner, NoItem, runner.feed, ("line", (10, 0), True))


class Entries(RunnerCase):

    def test_a_row_piece_by_piece_is_its_tape(self):
        source = random.Random(19)
        for turn in range(150):
            machine = source.choice(MACHINES) if turn % 2 else chance_machine(source)
            place = chance_place(source, machine)
            items = chance_walk(source, machine, place, turn % 21, source.choice((1, 0.8, 0.4)))
            rate = source.choice((10, 100, 200, source.randrange(10, 201)))
            runner = fed(machine, place, items, rate)
            tape = []
            while runner.waiting():
                n = source.choice((0, 1, 1, 2, 5, 50, 100))
                piece = runner.entries(n)
                self.assertIs(type(piece), list)
                self.assertTrue(len(piece) == n or not runner.waiting())
                tape += piece
            self.assertEqual(repr(tape), repr(tape_of(machine, items, rate)), (machine, place, items, rate))
            self.assertTrue(runner.stands())
            self.assertEqual(runner.place(), runner.leads_to())
            self.assertEqual(runner.entries(100), [])

    def test_all_at_once_and_one_by_one(self):
        items = (("line", (30, 7), 20), ("line", (20, 1), 9), ("tool", "down"), ("line", (-9, 0), 3), ("mark", "end"))
        expected = tape_of(WIDE, items, 100)
        self.assertEqual(len(expected), 61)
        self.assertEqual(fed(WIDE, (0, 0), items).entries(100), expected)
        self.assertEqual(fed(WIDE, (0, 0), items).entries(61), expected)
        self.assertEqual(fed(WIDE, (0, 0), items).entries(60), expected[:60])
        runner = fed(WIDE, (0, 0), items)
        self.assertEqual([runner.entries(1)[0] for turn in range(61)], expected)
        self.assertEqual(runner.entries(1), [])

    def test_no_entries(self):
        runner = fed(FLAT, (1, 2), (("line", (3, -2), 5),))
        for turn in range(3):
            before = repr(state_of(runner))
            self.assertEqual(runner.entries(0), [])
            self.assertEqual(repr(state_of(runner)), before)
            runner.entries(1)

    def test_a_tool_and_a_mark_are_the_runners_when_they_come(self):
        items = (("wait", 5), ("tool", "down"), ("mark", "one"), ("tool", "down"), ("tool", "up"), ("mark", "two"))
        runner = fed(FLAT, (1, 2), items)
        told = []
        for item in items:
            told.append((runner.tool(), runner.last_mark()))
            self.assertEqual(runner.entries(1), [item])
            self.assertTrue(runner.stands())
        told.append((runner.tool(), runner.last_mark()))
        self.assertEqual(told, [("up", ""), ("up", ""), ("down", ""), ("down", "one"), ("down", "one"),
                                ("up", "one"), ("up", "two")])

    def test_the_item_under_way_waits_till_its_last_step(self):
        line, mark = ("line", (3, -2), 5), ("mark", "a")
        runner = fed(FLAT, (1, 2), (line, mark))
        for place in ((2, 1), (3, 1)):
            runner.entries(1)
            self.assertEqual((runner.place(), runner.leads_to(), runner.waiting()), (place, (4, 0), [line, mark]))
            self.assertFalse(runner.stands())
        runner.entries(1)
        self.assertEqual((runner.place(), runner.leads_to(), runner.waiting()), ((4, 0), (4, 0), [mark]))
        self.assertTrue(runner.stands())

    def test_squares_of_a_line(self):
        runner = fed(WIDE, (0, 0), (("line", (5, 0), 20),))
        told = []
        for turn in range(5):
            told.append((runner.entries(1)[0], runner.square()))
        self.assertEqual(told, [
            (("step", (1, 0), 35, (3, 1)), (6, 1)), (("step", (1, 0), 20, (9, 1)), (12, 1)),
            (("step", (1, 0), 16, (15, 1)), (16, 1)), (("step", (1, 0), 18, (12, 1)), (8, 1)),
            (("step", (1, 0), 30, (4, 1)), (0, 1))])

    def test_what_comes_in_later_lifts_the_reach(self):
        # Behind a line that is the last one it must stand; fed on in time it need not fall.
        runner = fed(WIDE, (0, 0), (("line", (5, 0), 20),))
        self.assertEqual(squares_of(runner.entries(3)), wholes((3, 9, 15)))
        self.assertEqual(runner.square(), (16, 1))
        runner.feed(("line", (5, 0), 20))
        self.assertEqual(squares_of(runner.entries(3)), wholes((19, 25, 31)))
        runner.feed(("wait", 1))
        self.assertEqual(squares_of(runner.entries(4)), wholes((28, 20, 12, 4)))
        self.assertTrue(runner.stands())
        self.assertEqual(runner.entries(4), [("wait", 1)])

    def test_fed_too_late_it_has_fallen(self):
        runner = fed(WIDE, (0, 0), (("line", (5, 0), 20),))
        self.assertEqual(squares_of(runner.entries(4)), wholes((3, 9, 15, 12)))
        runner.feed(("line", (0, 5), 20))
        self.assertEqual(squares_of(runner.entries(9)), wholes((11, 17, 23, 20, 12, 4)))

    def test_a_corner_and_a_slow_line_behind(self):
        runner = fed(WIDE, (0, 0), (("line", (9, 0), 20), ("line", (0, 9), 20), ("line", (0, 9), 2)))
        tape = runner.entries(100)
        self.assertEqual(squares_of(tape)[8:10], wholes((29, 28)))
        self.assertEqual(tape, tape_of(WIDE, (("line", (9, 0), 20), ("line", (0, 9), 20), ("line", (0, 9), 2)), 100))

    def test_entries_asked_for_between_feedings(self):
        source = random.Random(20)
        for turn in range(120):
            machine = source.choice(MACHINES) if turn % 2 else chance_machine(source)
            place = chance_place(source, machine)
            runner, model = Runner(machine, place), ModelRunner(machine, place)
            for item in chance_walk(source, machine, place, 20, source.choice((1, 0.9, 0.6))):
                runner.feed(item)
                model.items.append(item)
                if source.random() < 0.7:
                    n = source.choice((0, 1, 2, 3, 7, 20))
                    self.assertEqual(repr(runner.entries(n)), repr(model.entries(n)))
                    self.is_so(runner, model)
            self.assertEqual(repr(runner.entries(100)), repr(model.entries(100)))
            self.is_so(runner, model)


class Holds(RunnerCase):

    def test_held_where_it_stands(self):
        for runner in (Runner(FLAT, (1, 2)), fed(FLAT, (1, 2), (("line", (3, -2), 5), ("wait", 1)))):
            waiting = runner.waiting()
            self.assertEqual(runner.hold(), 0)
            self.assertTrue(runner.is_held() and runner.stands())
            self.assertEqual(runner.entries(100), [])
            self.assertEqual(runner.hold(), 0)
            self.assertEqual(runner.waiting(), waiting)
            self.assertEqual(runner.go(), len(waiting))
            self.assertFalse(runner.is_held())
            self.assertEqual(runner.entries(100), tape_of(FLAT, tuple(waiting), 100))

    def test_stops_in(self):
        # One step more takes 2 times fall, which is 8, off the square at most.
        runner = fed(WIDE, (0, 0), (("line", (100, 0), 20),))
        told = []
        for turn in range(9):
            told.append((runner.square()[0], runner.stops_in()))
            runner.entries(1)
        self.assertEqual(told, [(0, 0), (6, 1), (12, 2), (18, 3), (24, 3), (30, 4), (36, 5), (42, 6), (48, 6)])

    def test_held_amid_a_line(self):
        runner = fed(WIDE, (0, 0), (("line", (100, 0), 20),))
        runner.entries(8)
        self.assertEqual((runner.square(), runner.stops_in()), ((48, 1), 6))
        self.assertEqual(runner.hold(), 6)
        told = []
        for turn in range(6):
            told.append((runner.entries(1)[0][3], runner.square(), runner.stops_in(), runner.hold()))
        self.assertEqual(told, [((44, 1), (40, 1), 5, 5), ((36, 1), (32, 1), 4, 4), ((28, 1), (24, 1), 3, 3),
                                ((20, 1), (16, 1), 2, 2), ((12, 1), (8, 1), 1, 1), ((4, 1), (0, 1), 0, 0)])
        self.assertEqual(runner.entries(100), [])
        self.assertEqual((runner.place(), runner.leads_to()), ((14, 0), (100, 0)))
        self.assertEqual(len(runner.waiting()), 1)

    def test_it_falls_evenly_where_it_need_not_fall_as_fast_as_it_could(self):
        runner = fed(WIDE, (0, 0), (("line", (100, 0), 20),))
        runner.entries(3)
        self.assertEqual((runner.square(), runner.hold()), ((18, 1), 3))
        self.assertEqual([(runner.entries(1)[0], runner.square()) for turn in range(3)], [
            (("step", (1, 0), 16, (15, 1)), (12, 1)), (("step", (1, 0), 20, (9, 1)), (6, 1)),
            (("step", (1, 0), 35, (3, 1)), (0, 1))])
        runner.go()
        runner.entries(5)
        self.assertEqual((runner.square(), runner.hold()), ((30, 1), 4))
        self.assertEqual([(runner.entries(1)[0][3], runner.square()) for turn in range(4)], [
            ((105, 4), (45, 2)), ((75, 4), (15, 1)), ((45, 4), (15, 2)), ((15, 4), (0, 1))])

    def test_held_across_items(self):
        items = (("line", (10, 0), 20), ("line", (1, 0), 20), ("line", (1, 1), 20), ("line", (9, 9), 20))
        runner = fed(WIDE, (0, 0), items)
        runner.entries(9)
        n = runner.hold()
        self.assertEqual((n, len(runner.entries(100)), runner.stands()), (6, 6, True))
        self.assertEqual((runner.waiting(), runner.place()), ([items[3]], (15, 4)))

    def test_it_stands_where_it_must_anyhow(self):
        # Just the rest of the line is done: the wait behind it does not come while it is held.
        runner = fed(WIDE, (0, 0), (("line", (16, 0), 20), ("wait", 3), ("line", (1, 0), 1)))
        runner.entries(10)
        self.assertEqual((runner.square(), runner.hold()), ((48, 1), 6))
        self.assertEqual(squares_of(runner.entries(100)), wholes((44, 36, 28, 20, 12, 4)))
        self.assertEqual(runner.waiting(), [("wait", 3), ("line", (1, 0), 1)])
        self.assertEqual(runner.entries(5), [])
        self.assertEqual(runner.go(), 2)
        self.assertEqual(runner.entries(1), [("wait", 3)])

    def test_a_slow_line_behind_keeps_it_lower_than_the_hold(self):
        machine = ((100, 100), 1, 1, 50, 9)
        runner = fed(machine, (0, 0), (("line", (40, 0), 20), ("line", (60, 0), 1)))
        model = ModelRunner(machine, (0, 0))
        model.items = runner.waiting()
        runner.entries(35), model.entries(35)
        self.assertEqual(runner.hold(), model.hold())
        entries = runner.entries(100)
        self.assertEqual(entries, model.entries(100))
        self.assertTrue(runner.stands())

    def test_let_go_on_while_it_falls(self):
        runner = fed(WIDE, (0, 0), (("line", (100, 0), 20),))
        runner.entries(8)
        runner.hold()
        self.assertEqual(squares_of(runner.entries(2)), wholes((44, 36)))
        self.assertEqual(runner.go(), 1)
        self.assertFalse(runner.is_held())
        self.assertEqual(squares_of(runner.entries(3)), wholes((35, 41, 47)))
        self.assertEqual((runner.square(), runner.hold()), ((50, 1), 7))
        self.assertEqual(squares_of(runner.entries(2)), [(325, 7), (275, 7)])

    def test_let_go_on_where_it_was_not_held(self):
        runner = fed(WIDE, (0, 0), (("line", (9, 0), 20), ("wait", 1)))
        for turn in range(11):
            before = repr(state_of(runner))
            self.assertEqual(runner.go(), len(runner.waiting()))
            self.assertEqual(repr(state_of(runner)), before)
            runner.entries(1)
        self.assertEqual(runner.go(), 0)

    def test_let_go_on_where_it_stands(self):
        runner = fed(WIDE, (0, 0), (("line", (30, 0), 20),))
        runner.entries(4)
        self.assertEqual(runner.hold(), 3)
        self.assertEqual(len(runner.entries(100)), 3)
        self.assertEqual(runner.go(), 1)
        tape = runner.entries(100)
        self.assertEqual(squares_of(tape), squares_of(tape_of(WIDE, (("line", (23, 0), 20),), 100)))

    def test_held_twice_nothing_changes(self):
        for again in range(7):
            runner = fed(WIDE, (0, 0), (("line", (100, 0), 20),))
            runner.entries(8)
            runner.hold()
            told = squares_of(runner.entries(again))
            before = repr(state_of(runner))
            self.assertEqual(runner.hold(), 6 - again)
            self.assertEqual(repr(state_of(runner)), before)
            self.assertEqual(told + squares_of(runner.entries(100)), wholes((44, 36, 28, 20, 12, 4)))

    def test_held_twice_where_it_is_lower_than_the_hold_asks(self):
        # Ahead of a slow line it falls faster than the first hold asks; the second one begins no fall of its own.
        for again in range(5):
            runner = fed(WIDE, (0, 0), (("line", (8, 0), 20), ("line", (50, 0), 2)))
            runner.entries(5)
            self.assertEqual((runner.square(), runner.hold()), ((28, 1), 4))
            told = runner.entries(again)
            self.assertEqual(runner.square(), ((28, 1), (20, 1), (12, 1), (4, 1), (0, 1))[again])
            self.assertEqual(runner.hold(), (4, 3, 2, 1, 0)[again])
            self.assertEqual(squares_of(told + runner.entries(100)), [(24, 1), (16, 1), (8, 1), (7, 2)])

    def test_fed_while_it_is_held(self):
        runner = fed(WIDE, (0, 0), (("line", (12, 0), 20),))
        runner.entries(6)
        self.assertEqual((runner.square(), runner.hold()), ((36, 1), 5))
        self.assertEqual(runner.feed(("line", (50, 0), 20)), 2)
        self.assertEqual(squares_of(runner.entries(100)), [(162, 5), (126, 5), (18, 1), (54, 5), (18, 5)])
        self.assertEqual(runner.feed(("mark", "a")), 3)
        self.assertEqual(runner.entries(5), [])
        self.unchanged_by(runner, NoItem, runner.feed, "mark a")
        self.unchanged_by(runner, OffRails, runner.feed, ("line", (50, 0), 20))
        self.assertEqual(runner.go(), 3)
        self.assertEqual(len(runner.entries(100)), 52)
        self.assertEqual(runner.last_mark(), "a")

    def test_a_small_square(self):
        machine = ((100, 100), 50, 50, 1, 100)
        runner = fed(machine, (0, 0), (("line", (9, 0), 1),), 10)
        runner.entries(2)
        self.assertEqual((runner.square(), runner.hold()), ((1, 100), 1))
        self.assertEqual(runner.entries(9), [("step", (1, 0), 1415, (1, 200))])
        self.assertTrue(runner.stands())


class DropAndRate(RunnerCase):

    def test_drop_where_it_is_held_and_stands(self):
        runner = fed(WIDE, (0, 0), (("line", (30, 3), 20), ("wait", 1), ("line", (1, 1), 1)))
        runner.entries(4)
        runner.hold()
        runner.entries(100)
        place = runner.place()
        self.assertEqual(place, (7, 1))
        self.assertEqual(runner.drop(), 3)
        self.assertEqual(state_of(runner), (place, place, (0, 1), 100, "up", "", [], True, True, 0))
        self.assertEqual(runner.drop(), 0)
        self.assertEqual(runner.entries(5), [])
        self.assertEqual(runner.go(), 0)
        self.assertEqual(runner.entries(5), [])

    def test_what_is_fed_behind_it_begins_where_it_stands(self):
        runner = fed(WIDE, (50, 50), (("line", (50, -50), 20), ("line", (0, 50), 20)))
        runner.entries(4)
        runner.hold()
        runner.entries(100)
        runner.drop()
        self.assertEqual(runner.place(), (57, 43))
        self.unchanged_by(runner, OffRails, runner.feed, ("line", (44, 0), 5))
        self.assertEqual(runner.feed(("line", (43, -43), 5)), 1)
        self.assertEqual(runner.leads_to(), (100, 0))
        self.assertEqual(runner.entries(100), [])
        runner.go()
        self.assertEqual(runner.entries(100), tape_of(WIDE, (("line", (43, -43), 5),), 100))
        self.assertEqual(runner.place(), (100, 0))

    def test_drop_of_nothing_and_of_what_never_began(self):
        runner = Runner(FLAT, (1, 2))
        runner.hold()
        self.assertEqual(runner.drop(), 0)
        for item in SHORT_ITEMS:
            runner.feed(item)
        self.assertEqual(runner.drop(), len(SHORT_ITEMS))
        self.assertEqual(state_of(runner), ((1, 2), (1, 2), (0, 1), 100, "up", "", [], True, True, 0))

    def test_drop_moving(self):
        runner = fed(WIDE, (0, 0), (("line", (30, 3), 20), ("wait", 1)))
        self.unchanged_by(runner, Moving, runner.drop)
        self.unchanged_by(Runner(FLAT, (1, 2)), Moving, Runner(FLAT, (1, 2)).drop)
        runner.entries(4)
        self.unchanged_by(runner, Moving, runner.drop)
        runner.hold()
        for turn in range(3):
            self.unchanged_by(runner, Moving, runner.drop)
            runner.entries(1)
        runner.go()
        self.unchanged_by(runner, Moving, runner.drop)
        runner.hold()
        self.assertEqual(runner.drop(), 2)

    def test_turn_rate(self):
        line = ("line", (20, 3), 10)
        for rate in range(10, 201):
            runner = Runner(WIDE, (0, 0))
            self.assertEqual(runner.turn_rate(rate), rate)
            self.assertEqual(runner.rate(), rate)
            if rate % 10 == 0:
                runner.feed(line)
                self.assertEqual(runner.entries(100), tape_of(WIDE, (line,), rate))

    def test_turn_rate_where_it_stands_with_a_line_under_way(self):
        runner = fed(WIDE, (0, 0), (("line", (40, 0), 10), ("line", (9, 9), 20)), 100)
        runner.entries(9)
        runner.hold()
        runner.entries(100)
        self.assertEqual(runner.place(), (16, 0))
        self.assertEqual(runner.turn_rate(30), 30)
        self.assertEqual((runner.rate(), runner.is_held()), (30, True))
        runner.go()
        expected = tape_of(WIDE, (("line", (24, 0), 10), ("line", (9, 9), 20)), 30)
        self.assertEqual(runner.entries(100), expected)

    def test_turn_rate_where_it_stands_between_items(self):
        items = (("line", (9, 0), 20), ("wait", 4), ("line", (0, 9), 9))
        runner = fed(WIDE, (0, 0), items)
        self.assertEqual(len(runner.entries(9)), 9)
        self.assertEqual(runner.turn_rate(10), 10)
        runner.entries(1)
        self.assertEqual(runner.turn_rate(200), 200)
        self.assertEqual(runner.entries(9), tape_of(WIDE, items[2:], 200))

    def test_no_rate_ahead_of_moving(self):
        standing, going = Runner(WIDE, (0, 0)), fed(WIDE, (0, 0), (("line", (30, 3), 20),))
        going.entries(3)
        for thing in NOT_WHOLE + PLAIN_THINGS + (
                9, 201, -10, -100, 10 ** 39, "100", [100], (100,), nested(100, 8, list)):
            self.unchanged_by(standing, NoRate, standing.turn_rate, thing)
            self.unchanged_by(going, NoRate, going.turn_rate, thing)

    def test_turn_rate_moving(self):
        runner = fed(WIDE, (0, 0), (("line", (30, 3), 20),))
        runner.entries(3)
        for rate in (10, 100, 200):
            self.unchanged_by(runner, Moving, runner.turn_rate, rate)
        runner.hold()
        for turn in range(3):
            self.unchanged_by(runner, Moving, runner.turn_rate, 50)
            runner.entries(1)
        self.assertEqual(runner.turn_rate(50), 50)


class ChanceDeeds(RunnerCase):

    def deed(self, source, runner, model):
        """One deed of both, chosen by chance; what both tell is held against one another."""
        word = source.choice(("feed", "feed", "feed", "entries", "entries", "hold", "hold", "go", "drop", "rate"))
        if word == "feed":
            item, behind = chance_item_from(source, model.machine, model.leads_to())
            if len(model.items) == 20:
                self.unchanged_by(runner, Full, runner.feed, item)
            else:
                model.items.append(item)
                self.assertEqual(runner.feed(item), len(model.items))
        elif word == "entries":
            n = source.choice((0, 1, 2, 3, 10, 100))
            self.assertEqual(repr(runner.entries(n)), repr(model.entries(n)))
        elif word == "hold":
            self.assertEqual(runner.hold(), model.hold())
        elif word == "go":
            self.assertEqual(runner.go(), model.go())
        elif word == "drop" and not (model.held and model.w == 0):
            self.unchanged_by(runner, Moving, runner.drop)
        elif word == "drop":
            self.assertEqual(runner.drop(), model.drop())
        elif model.w != 0:
            self.unchanged_by(runner, Moving, runner.turn_rate, 50)
        else:
            model.rate = source.choice((10, 100, 200, source.randrange(10, 201)))
            self.assertEqual(runner.turn_rate(model.rate), model.rate)

    def test_one_runner(self):
        source = random.Random(21)
        for turn in range(120):
            machine = source.choice(MACHINES) if turn % 2 else chance_machine(source)
            place = chance_place(source, machine)
            runner, model = Runner(machine, place), ModelRunner(machine, place)
            for number in range(60):
                self.deed(source, runner, model)
                self.is_so(runner, model)

    def test_two_runners_by_turns(self):
        source = random.Random(22)
        for turn in range(40):
            machine = source.choice(MACHINES)
            place = chance_place(source, machine)
            pairs = [(Runner(machine, place), ModelRunner(machine, place)) for number in range(2)]
            for number in range(80):
                self.deed(source, *source.choice(pairs))
                for runner, model in pairs:
                    self.is_so(runner, model)

    def test_two_runners_fed_the_same_items(self):
        items = (("line", (30, 3), 20), ("tool", "down"), ("mark", "a"), ("line", (-9, 0), 3))
        one, other = fed(WIDE, (0, 0), items), fed(WIDE, (0, 0), items)
        tape = tape_of(WIDE, items, 100)
        self.assertEqual(one.entries(35), tape[:35])
        self.assertEqual(state_of(other), ((0, 0), (21, 3), (0, 1), 100, "up", "", list(items), False, True, 0))
        other.hold()
        self.assertFalse(one.is_held())
        self.assertEqual(one.entries(100), tape[35:])
        self.assertEqual(other.drop(), 4)
        self.assertEqual((one.place(), other.place()), ((21, 3), (0, 0)))
        self.assertEqual((one.tool(), other.tool(), one.last_mark(), other.last_mark()), ("down", "up", "a", ""))


class TheWhole(RunnerCase):

    def test_the_steps_are_always_those_of_the_lines(self):
        source = random.Random(23)
        for turn in range(150):
            machine = source.choice(MACHINES) if turn % 2 else chance_machine(source)
            place = chance_place(source, machine)
            items = chance_walk(source, machine, place, 20, source.choice((1, 0.8)))
            runner, left, told = Runner(machine, place), list(items), []
            while left or runner.waiting():
                word = source.choice(("feed", "feed", "entries", "entries", "hold", "go", "go", "rate"))
                if word == "feed" and left and len(runner.waiting()) < 20:
                    runner.feed(left.pop(0))
                elif word == "entries":
                    told += runner.entries(source.choice((1, 2, 5, 30)))
                elif word == "hold":
                    runner.hold()
                elif word == "go":
                    runner.go()
                elif runner.stands():
                    runner.turn_rate(source.randrange(10, 201))
            self.assertEqual(rows_of(told), rows_due(items))

    def test_but_for_what_is_dropped(self):
        source = random.Random(24)
        for turn in range(60):
            machine = source.choice(MACHINES)
            place = chance_place(source, machine)
            items = chance_walk(source, machine, place, 12, 0.9)
            runner = fed(machine, place, items)
            told = runner.entries(source.randrange(60))
            runner.hold()
            told += runner.entries(100)
            self.assertEqual(rows_of(told), rows_due(items)[:len(told)])
            here = runner.place()
            self.assertEqual(here, tuple(number + sum(entry[1][axis] for entry in told if entry[0] == "step")
                                         for axis, number in enumerate(place)))
            runner.drop()
            behind = chance_walk(source, machine, here, 5, 0.9)
            for item in behind:
                runner.feed(item)
            runner.go()
            entries = []
            while runner.waiting():
                entries += runner.entries(100)
            self.assertEqual(entries, tape_of(machine, behind, 100))

    def test_it_could_stand_within_so_many_steps_as_it_tells(self):
        source = random.Random(25)
        for turn in range(40):
            machine = source.choice(MACHINES)
            place = chance_place(source, machine)
            items = chance_walk(source, machine, place, 20, 0.95)
            for count in range(0, min(100, leads_of(items)), 7):
                runner = fed(machine, place, items)
                runner.entries(count)
                n = runner.stops_in()
                self.assertEqual(runner.hold(), n)
                before = Fraction(*runner.square())
                self.assertTrue(2 * machine[2] * n >= before)
                self.assertTrue(n == 0 or 2 * machine[2] * (n - 1) < before)
                self.assertEqual(len(runner.entries(100)), n)
                self.assertTrue(runner.stands())

    def test_what_comes_in_sooner_makes_no_step_slower(self):
        source = random.Random(26)
        for turn in range(100):
            machine = source.choice(MACHINES) if turn % 2 else chance_machine(source)
            place = chance_place(source, machine)
            items = chance_walk(source, machine, place, 14, source.choice((1, 0.9)))
            rate = source.randrange(10, 201)
            total = len(rows_due(items))
            # Item i comes in behind so many entries at the latest; sooner in the second run.
            late = sorted(source.randrange(total + 1) for item in items)
            soon = [source.randrange(at + 1) if source.random() < 0.5 else at for at in late]
            soon = [max(soon[:number + 1]) for number in range(len(soon))]
            slow, quick = [self.done_when_fed(machine, place, items, rate, times) for times in (late, soon)]
            self.assertEqual(rows_of(slow), rows_of(quick))
            for one, other, best in zip(slow, quick, tape_of(machine, items, rate)):
                if one[0] == "step":
                    self.assertLessEqual(Fraction(*one[3]), Fraction(*other[3]))
                    self.assertGreaterEqual(one[2], other[2])
                    self.assertLessEqual(Fraction(*other[3]), Fraction(*best[3]))

    def done_when_fed(self, machine, place, items, rate, times):
        """All entries, each item fed behind so many of them, or when nothing waits any more."""
        runner, told = Runner(machine, place), []
        runner.turn_rate(rate)
        for item, at in zip(items, times):
            while len(told) < at and runner.waiting():
                told += runner.entries(min(100, at - len(told)))
            runner.feed(item)
        while runner.waiting():
            told += runner.entries(100)
        return told


if __name__ == "__main__":
    unittest.main()
