"""Points 26 and 27: the desk."""

import random
import re
import unittest
from fractions import Fraction

from glidequeue.desk import Desk
from glidequeue.errors import Full, Moving, NoItem, NoLine, NoMachine, NoPlace, NoRate, OffRails
from glidequeue.plans import plan_of
from glidequeue.tapes import tape_of
from glidequeue.texts import show_entry, show_items
from models import NUMBER, ModelRunner, words_of, writes_item
from rows import (
    DEEP, FLAT, MACHINES, SHORT_ITEMS, chance_item_from, chance_machine, chance_place, chance_walk, line_between,
)
from things import (
    NOT_WHOLE, PLAIN_THINGS, figures_at_once, nested, refused_twice, with_one_changed, with_one_less, with_one_more,
)

WIDE = ((100, 100), 3, 4, 5, 60)
QUESTIONS = ("place", "square", "stop", "waits", "plan", "tool", "mark", "state")
# Each is a row of a word alone; the first three are deeds.
ALONE = ("hold", "go", "drop") + QUESTIONS


def told_by(desk):
    """All that a desk tells without a deed."""
    return [desk.say(text) for text in QUESTIONS]


def entry_text(entry):
    if entry[0] != "step":
        return words_of(entry)
    return f"{words_of(entry[:3])} {Fraction(*entry[3])}"


class ModelDesk:
    """What a desk is to answer, or the class of the refusal, by the words of points 26 and 27."""

    def __init__(self, machine, place):
        self.machine, self.runner = machine, ModelRunner(machine, place)

    def say(self, text):
        words = text.split(" ") if isinstance(text, str) else [None]
        numbers = self.numbers(words[1:])
        if len(words) == 1 and words[0] in ALONE:
            return self.say_alone(words[0])
        if words[0] == "to":
            return self.say_to(numbers)
        if words[0] == "steps" and numbers and len(numbers) == 1 and 0 <= numbers[0] <= 100:
            return "\n".join(entry_text(entry) for entry in self.runner.entries(numbers[0])) or "none"
        if words[0] == "rate" and numbers and len(numbers) == 1:
            return self.say_rate(numbers[0])
        if isinstance(text, str) and writes_item(self.machine, text):
            return self.feed(self.item(text))
        return NoLine

    def numbers(self, words):
        """The numbers, or None where a word is none."""
        return [int(word) for word in words] if all(re.fullmatch(NUMBER, word) for word in words) else None

    def item(self, text):
        words = text.split(" ")
        if words[0] == "line":
            return ("line", tuple(int(word) for word in words[1:-1]), int(words[-1]))
        return (words[0], int(words[1]) if words[0] == "wait" else words[1])

    def feed(self, item):
        place = self.runner.leads_to()
        if item[0] == "line":
            behind = tuple(number + step for number, step in zip(place, item[1]))
            if not any(item[1]):
                return NoItem
            if not all(0 <= number <= rail for number, rail in zip(behind, self.machine[0])):
                return OffRails
        if len(self.runner.items) == 20:
            return Full
        self.runner.items.append(item)
        return str(len(self.runner.items))

    def say_to(self, numbers):
        rails = self.machine[0]
        if numbers is None or len(numbers) != len(rails) + 1 or not 1 <= numbers[-1] <= 20:
            return NoLine
        if not all(0 <= number <= rail for number, rail in zip(numbers, rails)):
            return NoLine
        return self.feed(line_between(self.runner.leads_to(), tuple(numbers[:-1]), numbers[-1]))

    def say_rate(self, number):
        if not 10 <= number <= 200:
            return NoRate
        if self.runner.w != 0:
            return Moving
        self.runner.rate = number
        return str(number)

    def say_alone(self, word):
        runner = self.runner
        if word == "drop" and not (runner.held and runner.w == 0):
            return Moving
        if word in ("hold", "go", "drop"):
            return str(getattr(runner, word)())
        if word == "plan":
            squares = plan_of(self.machine, tuple(runner.items), runner.rate)
            return " ".join(str(Fraction(*square)) for square in squares)
        return {
            "place": " ".join(str(number) for number in runner.here), "square": str(runner.w),
            "stop": str(runner.stops_in()), "waits": "\n".join(words_of(item) for item in runner.items) or "none",
            "tool": runner.side, "mark": runner.mark or "none",
            "state": f"{'held' if runner.held else 'free'} {'stands' if runner.w == 0 else 'goes'}",
        }[word]


class DeskCase(unittest.TestCase):

    def says(self, desk, text, answer):
        told = desk.say(text)
        self.assertEqual(told, answer, text)
        self.assertIs(type(told), str)

    def refuses(self, desk, error, text):
        """The text is refused twice, and the desk tells what it told."""
        before = told_by(desk)
        refusals = refused_twice(self, error, desk.say, text)
        self.assertEqual(told_by(desk), before, repr(text)[:200])
        return refusals

    def answers_as_due(self, desk, model, text):
        expected = model.say(text)
        if isinstance(expected, str):
            self.says(desk, text, expected)
        else:
            for refusal in self.refuses(desk, expected, text):
                if expected is OffRails:
                    self.assertEqual(refusal.at, len(model.runner.items))
        self.assertEqual(told_by(desk), [model.say(question) for question in QUESTIONS])
        return expected


class NewDesk(DeskCase):

    def test_all_that_it_tells(self):
        for machine in MACHINES:
            for place in ((0,) * len(machine[0]), machine[0]):
                desk = Desk(machine, place)
                here = " ".join(str(number) for number in place)
                self.assertEqual(told_by(desk), [here, "0", "0", "none", "0", "up", "none", "free stands"])

    def test_no_machine(self):
        for thing in NOT_WHOLE + PLAIN_THINGS + (
                list(FLAT), with_one_less(FLAT, 4), with_one_more(FLAT, 0, 1), ((10,), 3, 4, 5, 60),
                ((10, 20, 30, 40), 3, 4, 5, 60), ([10, 20], 3, 4, 5, 60), ((0, 20), 3, 4, 5, 60),
                ((10, 101), 3, 4, 5, 60), nested(FLAT, 1, tuple), nested(FLAT, 1, list)):
            refused_twice(self, NoMachine, Desk, thing, (1, 2))
            refused_twice(self, NoMachine, Desk, thing, None)
        for at in range(1, 5):
            for thing in (0, 101, True, None, "1", (1,), -1):
                refused_twice(self, NoMachine, Desk, with_one_changed(FLAT, at, thing), (1, 2))

    def test_no_place(self):
        for thing in NOT_WHOLE + PLAIN_THINGS + (
                [1, 2], (11, 0), (0, 21), (-1, 0), (0, -1), (True, 0), (0, False), (1,), (1, 2, 3), ((1, 2),)):
            if thing not in ((1, 2), (0, 1)) or type(thing[0]) is bool:
                refused_twice(self, NoPlace, Desk, FLAT, thing)
        refused_twice(self, NoPlace, Desk, DEEP, (1, 1))
        refused_twice(self, NoPlace, Desk, DEEP, (1, 2, 1))

    def test_the_first_of_both(self):
        refused_twice(self, NoMachine, Desk, None, None)
        refused_twice(self, NoMachine, Desk, (1, 2), FLAT)


class Rows(DeskCase):

    def test_items_feed_it(self):
        desk = Desk(FLAT, (1, 2))
        for count, text in enumerate(("line 3 -2 5", "wait 7", "tool down", "mark ab", "line -4 20 20"), 1):
            self.says(desk, text, str(count))
        self.says(desk, "waits", "line 3 -2 5\nwait 7\ntool down\nmark ab\nline -4 20 20")
        self.says(desk, "place", "1 2")

    def test_to(self):
        desk = Desk(WIDE, (1, 2))
        self.says(desk, "to 4 0 5", "1")
        self.says(desk, "wait 1", "2")
        self.says(desk, "to 0 100 20", "3")
        self.says(desk, "to 100 0 1", "4")
        self.says(desk, "waits", "line 3 -2 5\nwait 1\nline -4 100 20\nline 100 -100 1")
        self.refuses(desk, NoItem, "to 100 0 1")
        self.says(desk, "place", "1 2")
        desk.say("steps 2")
        self.says(desk, "to 100 1 3", "5")
        self.says(desk, "waits", "line 3 -2 5\nwait 1\nline -4 100 20\nline 100 -100 1\nline 0 1 3")
        deep = Desk(DEEP, (1, 1, 1))
        self.refuses(deep, NoItem, "to 1 1 1 9")
        self.says(deep, "to 7 0 100 9", "1")
        self.says(deep, "waits", "line 6 -1 99 9")

    def test_steps(self):
        desk = Desk(FLAT, (1, 2))
        self.says(desk, "steps 0", "none")
        self.says(desk, "steps 100", "none")
        for text in ("line 3 -2 20", "line 1 0 2", "wait 7", "mark a", "line 0 1 1"):
            desk.say(text)
        self.says(desk, "steps 0", "none")
        self.says(desk, "steps 2", "step 1 -1 35 3\nstep 1 0 20 9")
        self.says(desk, "place", "3 1")
        self.says(desk, "square", "12")
        self.says(desk, "stop", "2")
        self.says(desk, "state", "free goes")
        self.says(desk, "steps 1", "step 1 -1 22 8")
        self.says(desk, "steps 100", "step 1 0 30 4\nwait 7\nmark a\nstep 0 1 60 1")
        self.says(desk, "steps 100", "none")
        self.says(desk, "state", "free stands")
        self.says(desk, "mark", "a")

    def test_squares_are_written_as_fractions(self):
        desk = Desk(WIDE, (0, 0))
        desk.say("rate 33")
        desk.say("line 9 0 5")
        self.says(desk, "steps 2", "step 1 0 37 1089/400\nstep 1 0 37 1089/400")
        self.says(desk, "square", "1089/400")

    def test_hold_go_drop(self):
        desk = Desk(WIDE, (0, 0))
        self.refuses(desk, Moving, "drop")
        self.says(desk, "go", "0")
        self.says(desk, "hold", "0")
        self.says(desk, "state", "held stands")
        self.says(desk, "to 100 0 20", "1")
        self.says(desk, "steps 9", "none")
        self.says(desk, "go", "1")
        desk.say("steps 8")
        self.says(desk, "stop", "6")
        self.says(desk, "hold", "6")
        self.says(desk, "state", "held goes")
        self.refuses(desk, Moving, "drop")
        self.refuses(desk, Moving, "rate 50")
        self.refuses(desk, NoRate, "rate 5")
        self.assertEqual(len(desk.say("steps 100").split("\n")), 6)
        self.says(desk, "hold", "0")
        self.says(desk, "rate 50", "50")
        self.says(desk, "drop", "1")
        self.says(desk, "place", "14 0")
        self.says(desk, "waits", "none")
        self.says(desk, "drop", "0")
        self.says(desk, "state", "held stands")
        self.says(desk, "go", "0")

    def test_plan(self):
        desk = Desk(WIDE, (0, 0))
        self.says(desk, "plan", "0")
        desk.say("wait 1")
        self.says(desk, "plan", "0 0")
        desk.say("to 1 0 20")
        desk.say("to 2 0 20")
        desk.say("to 3 0 20")
        self.says(desk, "plan", "0 0 6 8 0")
        desk.say("rate 12")
        self.says(desk, "plan", "0 0 144/25 144/25 0")
        desk.say("rate 100")
        desk.say("steps 2")
        # A step is done, and it goes; the plan is that of what waits as if from standing.
        self.says(desk, "plan", "0 6 0")
        self.says(desk, "square", "6")

    def test_plan_amid_a_line(self):
        desk = Desk(WIDE, (0, 0))
        for text in ("to 9 0 20", "to 10 0 20"):
            desk.say(text)
        desk.say("steps 4")
        self.says(desk, "plan", "0 8 0")
        self.says(desk, "waits", "line 9 0 20\nline 1 0 20")

    def test_tool_and_mark(self):
        desk = Desk(FLAT, (1, 2))
        for text, answer in (("tool", "up"), ("mark", "none"), ("tool down", "1"), ("mark none", "2"), ("mark b", "3"),
                             ("tool", "up"), ("mark", "none"), ("steps 1", "tool down"), ("tool", "down"),
                             ("mark", "none"), ("steps 1", "mark none"), ("mark", "none"), ("steps 1", "mark b"),
                             ("mark", "b"), ("tool", "down"), ("tool up", "1"), ("steps 9", "tool up"), ("tool", "up")):
            self.says(desk, text, answer)

    def test_rate(self):
        desk = Desk(WIDE, (0, 0))
        for rate in range(10, 201):
            self.says(desk, f"rate {rate}", str(rate))
        items = (("line", (20, 3), 7),)
        desk.say("rate 20")
        desk.say(show_items(items))
        self.says(desk, "steps 100", "\n".join(show_entry(entry) for entry in tape_of(WIDE, items, 20)))

    def test_whole_rows(self):
        source = random.Random(261)
        for turn in range(40):
            machine = source.choice(MACHINES)
            place = chance_place(source, machine)
            items = chance_walk(source, machine, place, turn % 21)
            desk = Desk(machine, place)
            for item in items:
                desk.say(show_items((item,)))
            self.says(desk, "waits", show_items(items) or "none")
            told = []
            while desk.say("waits") != "none":
                told += desk.say("steps 100").split("\n")
            self.assertEqual(told, [show_entry(entry) for entry in tape_of(machine, items, 100)])

    def test_two_desks(self):
        one, other = Desk(WIDE, (0, 0)), Desk(WIDE, (0, 0))
        one.say("to 50 0 9"), one.say("tool down"), one.say("rate 50"), one.say("steps 9"), one.say("hold")
        self.assertEqual(told_by(other), ["0 0", "0", "0", "none", "0", "up", "none", "free stands"])
        other.say("to 9 9 9")
        self.assertEqual(one.say("waits"), "line 50 0 9\ntool down")
        self.says(other, "rate 70", "70")


class Refused(DeskCase):

    def desks(self):
        """One that stands, one that goes, one that is held and goes, one that is held and stands."""
        told = [Desk(FLAT, (1, 2)) for number in range(4)]
        for desk in told[1:]:
            desk.say("line 9 -2 20"), desk.say("wait 3"), desk.say("steps 4")
        for desk in told[2:]:
            desk.say("hold")
        told[3].say("steps 100")
        self.assertEqual([desk.say("state") for desk in told],
                         ["free stands", "free goes", "held goes", "held stands"])
        return told

    def test_things_that_are_no_text(self):
        for desk in self.desks():
            for thing in NOT_WHOLE + PLAIN_THINGS + (["hold"], ("hold",), ("wait", 3), nested("hold", 8, tuple)):
                if not isinstance(thing, str):
                    self.refuses(desk, NoLine, thing)

    def test_texts_that_are_no_row(self):
        for desk in self.desks():
            for text in (
                    "", " ", "\n", "~", "a", "0", "1", "Hold", "HOLD", "halt", "none", "step", "step 1 0 5 3", "held",
                    "hold 1", "hold ", " hold", "hold\n", "\nhold", "go 1", "go on", "drop all", "place 1 2", "square 0",
                    "stop 1", "waits 1", "plan 1", "state free", "tool left", "tool up down", "tool ", "mark ",
                    "mark a b", "mark A", "mark abcdefghi", "mark 1", "wait", "wait 0", "wait 1001", "wait 01", "wait +1",
                    "wait -1", "wait  1", "wait 1 ", " wait 1", "wait 1\n", "wait 1\nwait 1", "wait\n1", "line",
                    "line 1 2", "line 1 2 3 4", "line 0 0 5", "line 1 2 0", "line 1 2 21", "line 101 0 5", "line -0 1 5",
                    "line 01 1 5", "line 1 1 5 ", "line 1  1 5", "to", "to 1 2", "to 1", "to 1 2 3 4", "to 11 0 5",
                    "to 0 21 5", "to -1 0 5", "to 0 -1 5", "to 1 2 0", "to 1 2 21", "to 1 2 -5", "to 1 2 a", "to a 2 5",
                    "to 01 2 5", "to +1 2 5", "to -0 2 5", "to 1 2 05", "to  1 2 5", "to 1  2 5", "to 1 2 5 ",
                    " to 1 2 5", "to 1 2 5\n", "To 1 2 5", "to 5", "to 1,2 5", "steps", "steps ", "steps 101",
                    "steps -1", "steps 01", "steps +1", "steps -0", "steps a", "steps 1 2", "steps  1", "steps 1 ",
                    " steps 1", "steps 1\n", "steps 1000000000000000000000000000000000000000", "Steps 1", "rate",
                    "rate ", "rate a", "rate 050", "rate +50", "rate -0", "rate 50 50", "rate  50", "rate 50 ",
                    " rate 50", "rate 50\n", "rate 5.0", "rate 1/2", "rate - 5", "rate --5", "Rate 50", "rates 50",
                    "a" * 1500, "wait " + "1" * 1495, "steps " + "1" * 1490, "to 1 2 " + "1" * 1490,
                    "hold go", "tool\nup", "mark\na", "mark a\n", "to\n1 2 5"):
                self.refuses(desk, NoLine, text)

    def test_numbers_that_are_no_rate(self):
        for desk in self.desks():
            for number in (0, 1, 9, 201, 1000, -1, -10, -100, 10 ** 39, -(10 ** 39), 10 ** 1490, 1 - 10 ** 1490):
                self.refuses(desk, NoRate, f"rate {number}")

    def test_long_numbers(self):
        for most in (640, 4300):
            with figures_at_once(most):
                for figures in ("1" * 641, "9" * 1490, "5" * 4301):
                    for desk in self.desks():
                        self.refuses(desk, NoRate, f"rate {figures}")
                        self.refuses(desk, NoRate, f"rate -{figures}")
                        self.refuses(desk, NoLine, f"steps {figures}")
                        self.refuses(desk, NoLine, f"to 1 {figures} 5")
                        self.refuses(desk, NoLine, f"to 1 2 {figures}")
                        self.refuses(desk, NoLine, f"wait {figures}")

    def test_the_refusals_of_the_runner(self):
        desk = Desk(FLAT, (1, 2))
        for refusal in self.refuses(desk, OffRails, "line 10 0 5"):
            self.assertEqual(refusal.at, 0)
        self.refuses(desk, NoItem, "to 1 2 5")
        self.refuses(desk, Moving, "drop")
        for count in range(1, 21):
            self.says(desk, "wait 5", str(count))
        self.refuses(desk, Full, "wait 5")
        self.refuses(desk, Full, "to 3 3 5")
        self.refuses(desk, Full, "line 1 1 1")
        self.refuses(desk, NoItem, "to 1 2 5")
        for refusal in self.refuses(desk, OffRails, "line 10 0 5"):
            self.assertEqual(refusal.at, 20)
        self.refuses(desk, NoLine, "to 11 2 5")
        self.refuses(desk, NoLine, "wait 0")
        self.says(desk, "steps 1", "wait 5")
        self.says(desk, "to 3 3 5", "20")

    def test_no_item_of_the_other_number_of_axes(self):
        self.refuses(Desk(FLAT, (1, 2)), NoLine, "line 1 1 1 5")
        self.refuses(Desk(FLAT, (1, 2)), NoLine, "to 1 1 1 5")
        self.refuses(Desk(DEEP, (1, 1, 2)), NoLine, "line 1 1 5")
        self.refuses(Desk(DEEP, (1, 1, 2)), NoLine, "to 1 1 5")

    def test_signs_left_out_put_in_and_exchanged(self):
        for text in ALONE + ("to 4 0 5", "steps 10", "rate 150", "line 3 -2 5", "wait 10", "tool up", "mark ab"):
            for at in range(len(text) + 1):
                changed = [text[:at] + text[at + 1:]]
                for sign in " 019-+aos\n":
                    changed += [text[:at] + sign + text[at:], text[:at] + sign + text[at + 1:]]
                for other in changed:
                    self.answers_as_due(Desk(FLAT, (1, 2)), ModelDesk(FLAT, (1, 2)), other)


class LongSquares(DeskCase):
    """A desk that is held and let go on again and again: the figures of its square grow with each hold."""

    MACHINE = ((100, 100), 1, 1, 50, 100)
    ROUND = ("line 100 0 20", "line 0 100 20", "line -100 0 20", "line 0 -100 20")

    def both_say(self, text):
        """The answer of the desk, held against the model's, which alone may write numbers of any length at once."""
        with figures_at_once(0):
            expected = self.model.say(text)
        told = self.desk.say(text)
        self.assertTrue(told == expected, (text, told[:100], expected[:100]))
        self.assertIs(type(told), str)
        return told

    def hold_and_go_on(self, times):
        self.desk, self.model = Desk(self.MACHINE, (0, 0)), ModelDesk(self.MACHINE, (0, 0))
        self.both_say("rate 199")
        for number in range(20):
            self.both_say(self.ROUND[number % 4])
        for number in range(8):
            self.both_say("steps 100")
        # Below the top square first: from just there each free step would lead back to it.
        for text in ("hold", "steps 1", "go"):
            self.both_say(text)
        for number in range(times):
            if number % 50 == 0:
                self.both_say(self.ROUND[number // 50 % 4])
            for text in ("hold", "square", "stop", "steps 1", "state", "go", "steps 1"):
                self.both_say(text)

    def tells_all(self, least_figures):
        before = self.both_say("square")
        upper, slash, lower = before.partition("/")
        self.assertGreater(min(len(upper), len(lower)), least_figures)
        for text in QUESTIONS + ("steps 3", "hold", "steps 5", "square", "stop", "steps 100", "go", "steps 100"):
            self.both_say(text)

    def test_squares_of_some_figures(self):
        self.hold_and_go_on(20)
        self.tells_all(40)

    def test_squares_of_more_figures_than_python_writes_at_once(self):
        with figures_at_once(640):
            self.hold_and_go_on(250)
            self.tells_all(640)


EVENLY = ("item", "item", "to", "steps", "steps", "hold", "go", "go", "drop", "rate", "none")
FEEDING = ("item",) * 6 + ("to", "to", "hold", "drop", "rate", "none")


class ChanceTexts(DeskCase):

    def text(self, source, model, words):
        """A row by chance, most often one that can be told."""
        word = source.choice(words)
        place = chance_place(source, model.machine)
        here = " ".join(str(number) for number in place)
        if word == "item":
            return words_of(chance_item_from(source, model.machine, source.choice((place, model.runner.leads_to())))[0])
        if word == "to":
            return f"to {here} {source.randrange(0, 22)}"
        if word == "steps":
            return f"steps {source.choice((0, 1, 2, 5, 20, 100, 101))}"
        if word == "rate":
            return f"rate {source.choice((9, 10, 200, 201, source.randrange(10, 201)))}"
        if word == "none":
            return source.choice(("", "stop 1", "line 0 0 0", None, 5, "tool", "mark", words_of(SHORT_ITEMS[0]) + " "))
        return word

    def test_one_desk(self):
        source = random.Random(271)
        seen = set()
        for turn in range(60):
            machine = source.choice(MACHINES) if turn % 2 else chance_machine(source)
            place = chance_place(source, machine)
            desk, model = Desk(machine, place), ModelDesk(machine, place)
            for number in range(60):
                words = FEEDING if turn % 3 == 0 and number < 40 else EVENLY
                expected = self.answers_as_due(desk, model, self.text(source, model, words))
                seen.add(expected if not isinstance(expected, str) else str)
        self.assertEqual(seen, {str, NoLine, NoItem, OffRails, Full, Moving, NoRate})

    def test_two_desks_by_turns(self):
        source = random.Random(272)
        for turn in range(20):
            machine = source.choice(MACHINES)
            place = chance_place(source, machine)
            pairs = [(Desk(machine, place), ModelDesk(machine, place)) for number in range(2)]
            for number in range(60):
                desk, model = source.choice(pairs)
                self.answers_as_due(desk, model, self.text(source, model, EVENLY))
                for other, its_model in pairs:
                    self.assertEqual(told_by(other), [its_model.say(question) for question in QUESTIONS])


if __name__ == "__main__":
    unittest.main()
