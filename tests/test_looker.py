"""Point 23: tapes looked at; and what point 3 says of them."""

import copy
import random
import unittest
from fractions import Fraction

from glidequeue.errors import NoTape
from glidequeue.looker import look
from glidequeue.runner import Runner
from glidequeue.tapes import tape_of, ticks_of, time_of
from models import expected_look
from rows import (
    FLAT, MACHINES, SHORT_ITEMS, as_tuple, chance_machine, chance_place, chance_rows, chance_walk, rows_of_all_sorts,
)
from things import NOT_WHOLE, PLAIN_THINGS, asked_twice, nested, refused_twice

ROW = (("line", (3, -2), 20), ("line", (1, 0), 2), ("wait", 1), ("mark", "a"), ("tool", "up"), ("line", (0, 1), 1))
TAPE = (
    ("step", (1, -1), 35, (3, 1)), ("step", (1, 0), 20, (9, 1)), ("step", (1, -1), 22, (8, 1)),
    ("step", (1, 0), 30, (4, 1)), ("wait", 1), ("mark", "a"), ("tool", "up"), ("step", (0, 1), 60, (1, 1)))


def step_of(machine, row, square):
    return ("step", row, ticks_of(machine, square), square)


class LookerCase(unittest.TestCase):

    def lets_by(self, machine, items, rate, tape):
        self.assertIsNone(asked_twice(self, look, machine, items, rate, tape))

    def refuses(self, machine, items, rate, thing, at, why):
        for refusal in refused_twice(self, NoTape, look, machine, items, rate, thing):
            self.assertEqual((refusal.at, refusal.why), (at, why), (machine, items, rate, repr(thing)[:200]))
            self.assertEqual((type(refusal.at), type(refusal.why)), (int, int))

    def looked_at(self, machine, items, rate, thing):
        """Held against the model; what is told, (at, why) or None."""
        expected = expected_look(machine, items, rate, thing)
        if expected is None:
            self.lets_by(machine, items, rate, thing)
        else:
            self.refuses(machine, items, rate, thing, *expected)
        return expected


class ToldTapes(LookerCase):

    def test_told_tapes(self):
        for machine, items, rate in rows_of_all_sorts(231, 200, 7):
            self.lets_by(machine, items, rate, tape_of(machine, items, rate))

    def test_the_model_lets_them_by_too(self):
        for machine, items, rate in chance_rows(232, 60):
            self.assertIsNone(expected_look(machine, items, rate, tape_of(machine, items, rate)))

    def test_no_items(self):
        for machine in MACHINES:
            self.lets_by(machine, (), 100, [])
            self.lets_by(machine, SHORT_ITEMS, 100, list(SHORT_ITEMS))

    def test_tapes_of_a_lesser_rate(self):
        source = random.Random(233)
        for machine, items, rate in rows_of_all_sorts(234, 100, 7):
            lesser = source.randrange(10, rate + 1)
            self.lets_by(machine, items, rate, tape_of(machine, items, lesser))

    def test_tapes_looked_at_with_a_lesser_rate(self):
        source = random.Random(235)
        whys = set()
        for machine, items, rate in rows_of_all_sorts(236, 150, 7):
            expected = self.looked_at(machine, items, source.randrange(10, rate + 1), tape_of(machine, items, rate))
            whys.add(expected and expected[1])
        self.assertEqual(whys, {None, 3, 4})

    def test_tapes_of_a_runner_that_was_held(self):
        source = random.Random(237)
        for turn in range(150):
            machine = source.choice(MACHINES) if turn % 2 else chance_machine(source)
            place = chance_place(source, machine)
            items = chance_walk(source, machine, place, source.choice((3, 20)), source.choice((1, 0.8)))
            rate = source.randrange(10, 201)
            tape = self.tape_with_holds(source, Runner(machine, place), items, rate)
            self.lets_by(machine, items, rate, tape)
            self.no_step_above_the_told_tape(machine, items, rate, tape)

    def tape_with_holds(self, source, runner, items, rate):
        runner.turn_rate(rate)
        left, tape = list(items), []
        while left or runner.waiting():
            word = source.choice(("feed", "entries", "entries", "hold", "go", "go"))
            if word == "feed" and left:
                runner.feed(left.pop(0))
            elif word == "hold":
                runner.hold()
            elif word == "go":
                runner.go()
            else:
                tape += runner.entries(source.choice((1, 2, 5, 30)))
        return tape

    def no_step_above_the_told_tape(self, machine, items, rate, tape):
        told = tape_of(machine, items, rate)
        for entry, best in zip(tape, told):
            if entry[0] == "step":
                self.assertLessEqual(Fraction(*entry[3]), Fraction(*best[3]))
        self.assertGreaterEqual(time_of(tape), time_of(told))

    def test_what_is_let_by_is_never_above_the_told_tape(self):
        source = random.Random(238)
        passed = 0
        for machine, items, rate in rows_of_all_sorts(239, 250, 7):
            tape = tape_of(machine, items, rate)
            for turn in range(3):
                other = self.with_squares_changed(source, machine, tape)
                if self.looked_at(machine, items, rate, other) is None:
                    passed += 1
                    self.no_step_above_the_told_tape(machine, items, rate, other)
        self.assertGreater(passed, 100)

    def with_squares_changed(self, source, machine, tape):
        """Some steps a little slower or quicker, each with the ticks of its new square."""
        other = list(tape)
        for number in range(source.choice((1, 1, 2, 5))):
            steps = [at for at, entry in enumerate(other) if entry[0] == "step"]
            if steps:
                at = source.choice(steps)
                factor = Fraction(source.choice((1, 50, 90, 99, 101, 110)), 100)
                square = max(Fraction(*other[at][3]) * factor, Fraction(1, 200))
                other[at] = step_of(machine, other[at][1], as_tuple(square))
        return other


class WrongTapes(LookerCase):

    def test_example(self):
        self.assertEqual(tape_of(FLAT, ROW, 100), list(TAPE))
        self.lets_by(FLAT, ROW, 100, list(TAPE))

    def test_things_that_are_no_list(self):
        for thing in NOT_WHOLE + PLAIN_THINGS + (TAPE, (), "", None, nested(list(TAPE), 1, tuple)):
            if not isinstance(thing, list):
                self.refuses(FLAT, ROW, 100, thing, 0, 1)
                self.refuses(FLAT, (), 100, thing, 0, 1)

    def test_lists_of_other_things(self):
        for thing in NOT_WHOLE + PLAIN_THINGS:
            if isinstance(thing, list):
                self.refuses(FLAT, ROW, 100, thing, 0, 1)
            self.refuses(FLAT, ROW, 100, [thing], 0, 1)
            self.refuses(FLAT, (), 100, [thing], 0, 1)
            self.refuses(FLAT, (("wait", 1),), 100, [thing], 0, 1)

    def test_other_things_in_the_place_of_an_entry(self):
        for at in range(len(TAPE)):
            for thing in NOT_WHOLE + PLAIN_THINGS + (list(TAPE[at]), TAPE[at] + (1,), TAPE[at][:-1], (TAPE[at],)):
                tape = list(TAPE)
                tape[at] = thing
                self.refuses(FLAT, ROW, 100, tape, at, 1)

    def test_entries_lack(self):
        for count in range(len(TAPE)):
            self.refuses(FLAT, ROW, 100, list(TAPE[:count]), count, 1)

    def test_entries_too_many(self):
        for entry in TAPE + (None, ("wait", 2)):
            self.refuses(FLAT, ROW, 100, list(TAPE) + [entry], len(TAPE), 1)
            self.refuses(FLAT, ROW, 100, list(TAPE) + [entry] * 2, len(TAPE), 1)
            self.refuses(FLAT, (), 100, [entry], 0, 1)

    def test_one_too_many_ahead_of_an_end_that_is_wrong(self):
        # The one step is 5, from which it cannot stand by its fall of 4.
        line = ("line", (1, 0), 20)
        machine = ((9, 9), 50, 4, 1, 60)
        tape = [step_of(machine, (1, 0), (5, 1))]
        self.refuses(machine, (line,), 100, tape, 1, 4)
        self.refuses(machine, (line,), 100, tape + [("wait", 1)], 1, 1)
        self.refuses(machine, (line, ("wait", 1)), 100, tape + [("wait", 1)], 1, 4)
        self.refuses(machine, (line, ("wait", 1)), 100, tape + [("wait", 2)], 1, 1)
        self.refuses(machine, (line, ("wait", 1)), 100, tape, 1, 1)

    def test_rows_changed(self):
        for at, entry in enumerate(TAPE):
            if entry[0] == "step":
                for row in ((1, 1), (0, 0), (-1, 0), [1, -1], (1,), (1, -1, 0), (True, -1), (1, False), (1, True),
                            (False, True), (False, 1), (True, 0), (0, True), None, "1 -1", ((1, -1),)):
                    if repr(row) != repr(entry[1]):
                        self.refuses(FLAT, ROW, 100, self.changed(at, 1, row), at, 1)
                self.refuses(FLAT, ROW, 100, self.changed(at, 0, "Step"), at, 1)
                self.refuses(FLAT, ROW, 100, self.changed(at, 0, ("step",)), at, 1)

    def changed(self, at, part, thing):
        entry = TAPE[at][:part] + (thing,) + TAPE[at][part + 1:]
        return list(TAPE[:at]) + [entry] + list(TAPE[at + 1:])

    def test_items_changed(self):
        for at, part, things in ((4, 1, (True, 2, 0, "1", (1,), [1], None)), (4, 0, ("Wait", "mark", "step", None)),
                                 (5, 1, ("b", "", "aa", "A", 1, None, ["a"])), (5, 0, ("tool", "wait")),
                                 (6, 1, ("down", "", 1, True, ("up",))), (6, 0, ("mark", "wait"))):
            for thing in things:
                self.refuses(FLAT, ROW, 100, self.changed(at, part, thing), at, 1)

    def test_ticks_changed(self):
        for at, entry in enumerate(TAPE):
            if entry[0] == "step":
                for t in (entry[2] - 1, entry[2] + 1, 0, -entry[2], 1, True, False, None, "35", [entry[2]],
                          (entry[2],), (entry[2], 1), 10 ** 39, 10 ** 40 - 1, 1 - 10 ** 40):
                    self.refuses(FLAT, ROW, 100, self.changed(at, 2, t), at, 2)

    def test_one_tick_and_truths(self):
        machine = ((9, 9), 50, 50, 1, 1)
        items = (("line", (1, 0), 20),)
        self.lets_by(machine, items, 100, [("step", (1, 0), 1, (50, 1))])
        self.refuses(machine, items, 100, [("step", (1, 0), True, (50, 1))], 0, 2)
        self.refuses(machine, items, 100, [("step", (1, 0), 0, (50, 1))], 0, 2)
        self.refuses(machine, items, 100, [("step", (1, 0), -1, (50, 1))], 0, 2)
        self.refuses(machine, items, 100, [("step", (1, 0), 2, (50, 1))], 0, 2)
        self.refuses(machine, items, 100, [("step", (1, 0), 1, (True, 1))], 0, 2)
        self.refuses(machine, items, 100, [("step", (1, 0), 1, (1, True))], 0, 2)
        self.lets_by(machine, items, 100, [("step", (1, 0), 1, (1, 1))])

    def test_squares_that_are_none(self):
        for at, entry in enumerate(TAPE):
            if entry[0] == "step":
                p, q = entry[3]
                for square in ((0, 1), (-p, q), (2 * p, 2 * q), (p, -q), (p, 0), (-p, -q), [p, q], (p,), (p, q, 1), p,
                               None, "3", (p, True), (str(p), q), ((p, q), 1), (0, 5), ()):
                    self.refuses(FLAT, ROW, 100, self.changed(at, 3, square), at, 2)

    def test_above_the_top_square(self):
        items = (("line", (9, 0), 2),)
        tape = tape_of(FLAT, items, 100)
        self.assertEqual(tape[4], ("step", (1, 0), 30, (4, 1)))
        for square in (Fraction(4) + Fraction(1, 10 ** 20), Fraction(5), Fraction(10 ** 30)):
            tape[4] = step_of(FLAT, (1, 0), as_tuple(square))
            self.refuses(FLAT, items, 100, tape, 4, 3)
        tape[4] = step_of(FLAT, (1, 0), as_tuple(Fraction(4) - Fraction(1, 10 ** 20)))
        self.lets_by(FLAT, items, 100, tape)
        # The first of the faults of an entry counts.
        self.refuses(FLAT, items, 100, tape[:4] + [("step", (1, 0), 30, (5, 1))] + tape[5:], 4, 2)
        self.refuses(FLAT, items, 100, tape[:4] + [("step", (0, 1), 30, (5, 1))] + tape[5:], 4, 1)

    def test_the_beginning(self):
        # From standing the first step has at most the rise, 3.
        items = (("line", (9, 0), 20),)
        tape = tape_of(FLAT, items, 100)
        for square, fault in ((Fraction(3), None), (3 + Fraction(1, 10 ** 15), (0, 4)), (Fraction(400), (0, 4))):
            tape[0] = step_of(FLAT, (1, 0), as_tuple(square))
            self.assertEqual(self.looked_at(FLAT, items, 100, tape), fault)

    def test_the_end(self):
        items = (("line", (9, 0), 20),)
        tape = tape_of(FLAT, items, 100)
        self.assertEqual(tape[8][3], (4, 1))
        tape[8] = step_of(FLAT, (1, 0), as_tuple(4 + Fraction(1, 10 ** 15)))
        self.refuses(FLAT, items, 100, tape, 9, 4)
        self.refuses(FLAT, items + (("wait", 1),), 100, tape + [("wait", 1)], 9, 4)
        # Slower than it need be at the end: the step ahead of it cannot fall so far.
        tape[8] = step_of(FLAT, (1, 0), (3, 1))
        self.refuses(FLAT, items, 100, tape, 8, 4)

    def test_a_jump_amid_a_line(self):
        machine = ((100, 100), 3, 4, 5, 60)
        items = (("line", (6, 0), 20),)
        for squares, fault in (
                ((3, 9, 15, 20, 12, 4), None), ((3, 3, 3, 3, 3, 3), None), ((3, 10, 15, 20, 12, 4), (1, 4)),
                ((3, 9, 15, 21, 12, 4), (4, 4)), ((3, 9, 15, 22, 12, 4), (3, 4)), ((3, 9, 15, 20, 11, 4), (4, 4)),
                ((1, 2, 1, 2, 1, 2), None), ((1, 7, 1, 7, 1, 4), None), ((1, 8, 1, 7, 1, 4), (1, 4)),
                ((3, 9, 1, 7, 1, 4), None), ((3, 9, Fraction(1, 2), 1, 1, 1), (2, 4)),
                ((Fraction(1, 200),) * 6, None)):
            tape = [step_of(machine, (1, 0), as_tuple(square)) for square in squares]
            self.assertEqual(self.looked_at(machine, items, 100, tape), fault, squares)

    def test_it_may_stand_within_a_line(self):
        items = (("line", (4, 0), 20),)
        tape = [step_of(FLAT, (1, 0), (square, 1)) for square in (3, 4, 3, 4)]
        self.lets_by(FLAT, items, 100, tape)

    def test_the_top_square_bounds_what_is_between_two_steps(self):
        # Two steps at the top square, with rise and fall to spare.
        machine, items = ((9, 9), 50, 50, 50, 60), (("line", (2, 0), 2),)
        self.lets_by(machine, items, 100, [step_of(machine, (1, 0), (4, 1))] * 2)

    def test_own_bounds_where_items_meet(self):
        # A corner's square of 25 is passed by steps of at most 28 and 29.
        items = (("line", (30, 0), 20), ("line", (0, 30), 20))
        tape = tape_of(FLAT, items, 100)
        self.assertEqual((tape[29][3], tape[30][3]), ((29, 1), (28, 1)))
        self.lets_by(FLAT, items, 100, tape)
        for at, square in ((29, (30, 1)), (30, (29, 1))):
            other = list(tape)
            other[at] = step_of(FLAT, other[at][1], square)
            self.refuses(FLAT, items, 100, other, 30, 4)

    def test_squares_and_ticks_of_any_size(self):
        items = (("line", (1, 0), 20),)
        machine = ((9, 9), 3, 4, 5, 100)
        small = (1, 10 ** 38)
        t = 100 * 10 ** 19
        self.lets_by(machine, items, 100, [("step", (1, 0), t, small)])
        self.refuses(machine, items, 100, [("step", (1, 0), t - 1, small)], 0, 2)
        self.refuses(machine, items, 100, [("step", (1, 0), t + 1, small)], 0, 2)
        self.refuses(machine, items, 100, [("step", (1, 0), 1, small)], 0, 2)
        great = (10 ** 40 - 1, 1)
        self.refuses(machine, items, 100, [("step", (1, 0), 1, great)], 0, 3)
        self.refuses(machine, items, 100, [("step", (1, 0), 2, great)], 0, 2)
        self.refuses(machine, items, 100, [("step", (1, 0), 10 ** 40 - 1, great)], 0, 2)
        fine = (10 ** 39 + 1, 10 ** 39)
        self.lets_by(machine, items, 100, [("step", (1, 0), 100, fine)])
        finer = (10 ** 39 - 1, 10 ** 39)
        self.lets_by(machine, items, 100, [("step", (1, 0), 101, finer)])
        self.refuses(machine, items, 100, [("step", (1, 0), 100, finer)], 0, 2)

    def test_chance_changes(self):
        source = random.Random(240)
        whys = {}
        for machine, items, rate in rows_of_all_sorts(241, 210, 7):
            tape = tape_of(machine, items, rate)
            for turn in range(6):
                fault = self.looked_at(machine, items, rate, self.spoiled(source, tape))
                whys[fault and fault[1]] = whys.get(fault and fault[1], 0) + 1
        self.assertEqual(set(whys), {None, 1, 2, 3, 4})

    def spoiled(self, source, tape):
        """A copy with one entry less, more, exchanged, cut off, or with a part changed."""
        other = list(tape)
        if not other:
            return [source.choice((None, ("wait", 1), ("step", (1, 0), 1, (1, 1))))]
        at, word = source.randrange(len(other)), source.choice(("less", "more", "swap", "cut", "part", "part", "part"))
        if word == "less":
            del other[at]
        elif word == "more":
            other.insert(at, source.choice(other))
        elif word == "swap":
            to = source.randrange(len(other))
            other[at], other[to] = other[to], other[at]
        elif word == "cut":
            del other[at:]
        else:
            entry = other[at]
            part = source.randrange(len(entry))
            things = [True, 1, 2, (0, 1), (1, 1), (1600, 1), (1601, 1), "up", "a", entry[part], None, (1, 0), [1, 0]]
            if part == 2:
                things += [entry[2] + 1, entry[2] - 1]
            other[at] = entry[:part] + (source.choice(things),) + entry[part + 1:]
            if entry[0] == "step" and source.random() < 0.5:
                square = Fraction(*entry[3]) * Fraction(source.choice((50, 99, 101, 200)), 100)
                square = max(square, Fraction(1, 200))
                other[at] = ("step", entry[1], ticks_of(((1, 1), 1, 1, 1, 60), as_tuple(square)), as_tuple(square))
        return other

    def test_a_tape_of_another_row(self):
        source = random.Random(242)
        rows = chance_rows(243, 100)
        for machine, items, rate in rows:
            other = source.choice(rows)[1]
            if all(len(item[1]) == len(machine[0]) for item in other if item[0] == "line"):
                self.looked_at(machine, items, rate, tape_of(machine, other, rate))

    def test_what_was_handed_in_stays_and_may_be_changed_behind_the_call(self):
        tape = list(TAPE)
        self.lets_by(FLAT, ROW, 100, tape)
        before = copy.deepcopy(tape)
        tape.pop()
        self.refuses(FLAT, ROW, 100, tape, 7, 1)
        tape.append(before[-1])
        self.lets_by(FLAT, ROW, 100, tape)


if __name__ == "__main__":
    unittest.main()
