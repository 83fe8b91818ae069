"""Points 6 and 7: items of a machine, and the places that they lead to."""

import random
import unittest

from glidequeue.errors import OffRails
from glidequeue.items import ends, is_item
from things import (NOT_WHOLE, PLAIN_THINGS, asked_twice, list_of_its_own, nested, refused_twice,
                    with_one_changed, with_one_less, with_one_more)

FLAT = ((10, 20), 3, 4, 5, 60)
DEEP = ((7, 1, 100), 1, 50, 2, 100)
MACHINES = (FLAT, DEEP)
LINES = {
    FLAT: (("line", (3, -2), 5), ("line", (0, 7), 1), ("line", (-100, 100), 20)),
    DEEP: (("line", (3, -2, 1), 5), ("line", (0, 0, -7), 1), ("line", (100, -100, 0), 20)),
}
OTHERS = (("wait", 7), ("tool", "up"), ("tool", "down"), ("mark", "abc"))
WORDS = ("line", "wait", "tool", "mark")
LETTERS = "abcdefghijklmnopqrstuvwxyz"
OTHER_SIGNS = [chr(code) for code in range(ord(" "), ord("~") + 1) if chr(code) not in LETTERS + "%"]
GREAT = (10 ** 39, -(10 ** 39), 10 ** 40 - 1, 1 - 10 ** 40)


def line_of(steps):
    return ("line", steps, 5)


class IsItem(unittest.TestCase):

    def tells(self, machine, thing, expected):
        with self.subTest(machine=machine, thing=repr(thing)[:80]):
            self.assertIs(asked_twice(self, is_item, machine, thing), expected)

    def all_tell(self, thing, expected):
        for machine in MACHINES:
            self.tells(machine, thing, expected)

    def test_items(self):
        for machine in MACHINES:
            for item in LINES[machine] + OTHERS:
                self.tells(machine, item, True)

    def test_each_number_of_steps_at_its_bounds(self):
        for machine in MACHINES:
            for line in LINES[machine]:
                for at in range(len(machine[0])):
                    for step in (-100, -99, -1, 1, 99, 100):
                        self.tells(machine, line_of(with_one_changed(line[1], at, step)), True)
                    for step in (-102, -101, 101, 102) + GREAT:
                        self.tells(machine, line_of(with_one_changed(line[1], at, step)), False)

    def test_all_steps_at_their_bounds(self):
        for step in (-100, 100):
            self.tells(FLAT, line_of((step, step)), True)
            self.tells(DEEP, line_of((step, step, step)), True)
        for step in (-101, 101):
            self.tells(FLAT, line_of((step, step)), False)
            self.tells(DEEP, line_of((step, step, step)), False)

    def test_all_steps_nought(self):
        self.tells(FLAT, line_of((0, 0)), False)
        self.tells(DEEP, line_of((0, 0, 0)), False)

    def test_one_step_alone_is_not_nought(self):
        for machine in MACHINES:
            none = (0,) * len(machine[0])
            for at in range(len(none)):
                for step in (-100, -1, 1, 100):
                    self.tells(machine, line_of(with_one_changed(none, at, step)), True)

    def test_steps_that_come_to_nought_together(self):
        self.tells(FLAT, line_of((5, -5)), True)
        self.tells(DEEP, line_of((5, -3, -2)), True)

    def test_speed_at_its_bounds(self):
        for machine in MACHINES:
            for line in LINES[machine]:
                for speed in range(1, 21):
                    self.tells(machine, line[:2] + (speed,), True)
                for speed in (-20, -1, 0, 21, 22) + GREAT:
                    self.tells(machine, line[:2] + (speed,), False)

    def test_wait_at_its_bounds(self):
        for number in (1, 2, 20, 100, 999, 1000):
            self.all_tell(("wait", number), True)
        for number in (-1000, -1, 0, 1001, 1002) + GREAT:
            self.all_tell(("wait", number), False)

    def test_no_whole_number_in_a_place(self):
        for thing in NOT_WHOLE:
            self.all_tell(("wait", thing), False)
            for machine in MACHINES:
                for line in LINES[machine]:
                    self.tells(machine, line[:2] + (thing,), False)
                    for at in range(len(machine[0])):
                        self.tells(machine, line_of(with_one_changed(line[1], at, thing)), False)

    def test_truths_among_noughts(self):
        self.tells(FLAT, line_of((True, 0)), False)
        self.tells(FLAT, line_of((False, 1)), False)
        self.tells(DEEP, line_of((0, False, 1)), False)

    def test_no_tuple_of_steps(self):
        for machine in MACHINES:
            steps = LINES[machine][0][1]
            for thing in (list(steps), str(steps), 3, 0, True, None, "12", "123", "", (), [], [steps], (steps,)):
                self.tells(machine, line_of(thing), False)
            for depth in range(1, 7):
                self.tells(machine, line_of(nested(steps, depth, tuple)), False)
                self.tells(machine, line_of(nested(steps, depth, list)), False)

    def test_as_many_steps_as_another_machine_has_axes(self):
        for line in LINES[FLAT]:
            self.tells(DEEP, line, False)
        for line in LINES[DEEP]:
            self.tells(FLAT, line, False)
        for count in range(8):
            self.tells(FLAT, line_of((1,) * count), count == 2)
            self.tells(DEEP, line_of((1,) * count), count == 3)

    def test_a_number_of_steps_left_out_put_in_or_twice(self):
        for machine in MACHINES:
            for line in LINES[machine]:
                steps = line[1]
                for at in range(len(steps)):
                    self.tells(machine, line_of(with_one_less(steps, at)), False)
                    self.tells(machine, line_of(with_one_more(steps, at, steps[at])), False)
                for at in range(len(steps) + 1):
                    for thing in (0, 1, None, ()):
                        self.tells(machine, line_of(with_one_more(steps, at, thing)), False)
                self.tells(machine, line_of(steps + steps), False)

    def test_a_thing_left_out_put_in_or_twice(self):
        for machine in MACHINES:
            for item in LINES[machine] + OTHERS:
                for at in range(len(item)):
                    self.tells(machine, with_one_less(item, at), False)
                    self.tells(machine, with_one_more(item, at, item[at]), False)
                    self.tells(machine, item[:at], False)
                for at in range(len(item) + 1):
                    for thing in (1, 5, None, (), "up", "line", item):
                        self.tells(machine, with_one_more(item, at, thing), False)
                self.tells(machine, item + item, False)

    def test_another_order(self):
        for machine in MACHINES:
            for item in LINES[machine] + OTHERS:
                self.tells(machine, item[::-1], False)
            for line in LINES[machine]:
                self.tells(machine, (line[0], line[2], line[1]), False)

    def test_sides(self):
        for side in ("", "u", "upp", "dow", "downs", "Up", "UP", "Down", " up", "up ", "updown", "left", "line"):
            self.all_tell(("tool", side), False)
        for thing in NOT_WHOLE + (0, 1, ("up",), ["up"], ("up", "down"), tuple("up")):
            self.all_tell(("tool", thing), False)

    def test_names_of_each_length(self):
        for length in range(1, 9):
            self.all_tell(("mark", "a" * length), True)
            self.all_tell(("mark", LETTERS[:length]), True)
            self.all_tell(("mark", LETTERS[-length:]), True)
        for name in ("", "a" * 9, LETTERS[:9], "a" * 10, LETTERS, "a" * 1500):
            self.all_tell(("mark", name), False)

    def test_each_letter(self):
        for letter in LETTERS:
            self.all_tell(("mark", letter), True)
            self.all_tell(("mark", letter.upper()), False)
        for word in WORDS + ("up", "down", "none"):
            self.all_tell(("mark", word), True)

    def test_every_other_sign_at_any_place_of_a_name(self):
        for sign in OTHER_SIGNS:
            for name in ("a", "ab", "abcz", "abcdefgh"):
                for at in range(len(name)):
                    self.all_tell(("mark", name[:at] + sign + name[at + 1:]), False)
            for at in range(4):
                self.all_tell(("mark", "abc"[:at] + sign + "abc"[at:]), False)

    def test_names_that_are_no_texts(self):
        for thing in (True, False, None, 0, 1, 123, [], (), ["a"], ("a",), list("abc"), tuple("abc"), [["a"]],
                      ("", "a"), nested("a", 6, tuple), nested("a", 6, list)):
            self.all_tell(("mark", thing), False)

    def test_another_kinds_word(self):
        for machine in MACHINES:
            for item in LINES[machine] + OTHERS:
                for word in WORDS:
                    if word != item[0]:
                        # A side's letters are a name, too.
                        named = word == "mark" and item[0] == "tool"
                        self.tells(machine, with_one_changed(item, 0, word), named)

    def test_no_such_word(self):
        for machine in MACHINES:
            for item in LINES[machine] + OTHERS:
                word = item[0]
                wrong = (word.upper(), word.title(), word + "s", word + " ", " " + word, word[:-1], word[1:])
                for thing in wrong + (word[::-1], "", "step", "none"):
                    self.tells(machine, with_one_changed(item, 0, thing), False)

    def test_words_that_are_no_texts(self):
        for machine in MACHINES:
            for item in LINES[machine] + OTHERS:
                word = item[0]
                for thing in (True, False, None, 0, 1, [], (), [word], (word,), list(word), tuple(word), item, WORDS):
                    self.tells(machine, with_one_changed(item, 0, thing), False)

    def test_another_kind(self):
        for machine in MACHINES:
            for item in LINES[machine] + OTHERS:
                self.tells(machine, list(item), False)
                self.tells(machine, str(item), False)
                self.tells(machine, item[0], False)
                self.tells(machine, " ".join(str(part) for part in item), False)
                for depth in range(1, 6):
                    self.tells(machine, nested(item, depth, tuple), False)
                    self.tells(machine, nested(item, depth, list), False)
            self.tells(machine, ["line", list(LINES[machine][0][1]), 5], False)

    def test_any_other_thing(self):
        for machine in MACHINES:
            for thing in PLAIN_THINGS + (machine, machine[0], LINES[machine], OTHERS):
                self.tells(machine, thing, False)
            for thing in PLAIN_THINGS:
                self.tells(machine, (thing, 1), False)
                self.tells(machine, (thing, (1,) * len(machine[0]), 1), False)

    def test_one_machine_asked_of_does_not_change_another(self):
        for turn in range(2):
            self.tells(FLAT, ("line", (1, 1), 1), True)
            self.tells(DEEP, ("line", (1, 1), 1), False)
            self.tells(DEEP, ("line", (1, 1, 1), 1), True)
            self.tells(FLAT, ("line", (1, 1, 1), 1), False)


def chance_row(source, machine, place):
    """Items that stay on the rails, and the places behind them; the leads come to at most 300 together."""
    items, places, leads = [], [], 0
    for turn in range(source.randrange(21)):
        new = tuple(source.randrange(rail + 1) for rail in machine[0])
        steps = tuple(n - o for n, o in zip(new, place))
        lead = max(abs(step) for step in steps)
        if lead == 0 or leads + lead > 300 or source.randrange(3) == 0:
            items.append(source.choice(OTHERS))
        else:
            items.append(("line", steps, source.randrange(1, 21)))
            place = new
            leads += lead
        places.append(place)
    return tuple(items), places


class Ends(unittest.TestCase):

    def tells(self, machine, place, items, expected):
        with self.subTest(machine=machine, place=place, items=items):
            told = list_of_its_own(self, ends, machine, place, items)
            self.assertEqual(told, expected)
            for one in told:
                self.assertIs(type(one), tuple)
                self.assertEqual({type(number) for number in one}, {int})

    def refuses(self, machine, place, items, at):
        with self.subTest(machine=machine, place=place, items=items):
            for refusal in refused_twice(self, OffRails, ends, machine, place, items):
                self.assertEqual(repr(refusal.at), repr(at))

    def test_no_items(self):
        self.tells(FLAT, (0, 0), (), [])
        self.tells(DEEP, (7, 1, 100), (), [])

    def test_examples(self):
        self.tells(FLAT, (1, 2), (("line", (3, -2), 5), ("wait", 9), ("line", (-4, 20), 1)), [(4, 0), (4, 0), (0, 20)])
        self.tells(DEEP, (0, 1, 50), (("mark", "a"), ("line", (7, -1, 50), 20)), [(0, 1, 50), (7, 0, 100)])

    def test_other_items_lead_on_by_none(self):
        for machine in MACHINES:
            for place in ((0,) * len(machine[0]), machine[0]):
                for item in OTHERS:
                    self.tells(machine, place, (item,), [place])
                self.tells(machine, place, OTHERS * 5, [place] * 20)

    def test_to_either_end_of_each_rail(self):
        for machine in MACHINES:
            low = (0,) * len(machine[0])
            for at, rail in enumerate(machine[0]):
                high = with_one_changed(low, at, rail)
                there, back = line_of(high), line_of(tuple(-number for number in high))
                self.tells(machine, low, (there,), [high])
                self.tells(machine, high, (back,), [low])
                turns = min(10, 150 // rail)
                self.tells(machine, low, (there, back) * turns, [high, low] * turns)

    def test_one_step_beyond_either_end_of_each_rail(self):
        for machine in MACHINES:
            low, high = (0,) * len(machine[0]), machine[0]
            for at in range(len(low)):
                up = line_of(with_one_changed(low, at, 1))
                down = line_of(with_one_changed(low, at, -1))
                self.refuses(machine, low, (down,), 0)
                self.refuses(machine, high, (up,), 0)
                self.refuses(machine, low, (down, up), 0)
                self.refuses(machine, high, (up, down), 0)
                self.tells(machine, low, (up, down), [with_one_changed(low, at, 1), low])
                self.tells(machine, high, (down, up), [with_one_changed(high, at, high[at] - 1), high])

    def test_each_axis_has_its_own_rail(self):
        self.tells(FLAT, (0, 0), (line_of((10, 20)),), [(10, 20)])
        self.refuses(FLAT, (0, 0), (line_of((11, 20)),), 0)
        self.refuses(FLAT, (0, 0), (line_of((10, 21)),), 0)
        self.refuses(FLAT, (0, 0), (line_of((20, 10)),), 0)

    def test_the_first_one_with_other_items_ahead(self):
        for machine in MACHINES:
            low = (0,) * len(machine[0])
            up, down = line_of(with_one_changed(low, 0, 1)), line_of(with_one_changed(low, 0, -1))
            for ahead in range(20):
                items = (OTHERS * 5)[:ahead] + (down,) + (up,) * (19 - ahead)
                self.refuses(machine, low, items, ahead)
                items = ((up, down) * 10)[:ahead - ahead % 2] + (down, up, down)
                self.refuses(machine, low, items[:20], ahead - ahead % 2)

    def test_the_first_one_where_later_ones_are_off_too(self):
        self.refuses(FLAT, (0, 0), (("wait", 1), line_of((11, 0)), line_of((100, 100)), line_of((0, -1))), 1)
        self.refuses(FLAT, (0, 0), (line_of((11, 0)), ("wait", 1), ("tool", "up")), 0)

    def test_off_in_sum_alone(self):
        self.refuses(FLAT, (0, 0), (line_of((4, 0)), line_of((4, 0)), line_of((4, 0))), 2)
        self.tells(FLAT, (0, 0), (line_of((4, 0)), line_of((4, 0)), line_of((2, 0))), [(4, 0), (8, 0), (10, 0)])

    def test_chance_rows(self):
        source = random.Random(7)
        for turn in range(200):
            machine = source.choice(MACHINES)
            place = tuple(source.randrange(rail + 1) for rail in machine[0])
            items, places = chance_row(source, machine, place)
            self.tells(machine, place, items, places)

    def test_chance_rows_with_one_line_off(self):
        source = random.Random(8)
        for turn in range(200):
            machine = source.choice(MACHINES)
            place = tuple(source.randrange(rail + 1) for rail in machine[0])
            items, places = chance_row(source, machine, place)
            at = source.randrange(min(len(items), 18) + 1)
            here = places[at - 1] if at else place
            axis = source.randrange(len(here))
            beyond = source.choice((-here[axis] - 1, machine[0][axis] + 1 - here[axis]))
            off = line_of(with_one_changed((0,) * len(here), axis, beyond))
            back = line_of(with_one_changed((0,) * len(here), axis, -beyond))
            self.refuses(machine, place, (items[:at] + (off, back) + items[at:])[:20], at)

    def test_a_refusal_changes_nothing_told_later(self):
        items = (line_of((1, 1)), line_of((2, 2)))
        before = ends(FLAT, (0, 0), items)
        self.refuses(FLAT, (10, 20), items, 0)
        self.tells(FLAT, (0, 0), items, before)


if __name__ == "__main__":
    unittest.main()
