"""Points 24 and 25: fractions, items and entries written, and rows of items read."""

import random
import re
import unittest
from fractions import Fraction

from glidequeue.errors import NoText
from glidequeue.tapes import tape_of
from glidequeue.texts import read_items, show_entry, show_fraction, show_items
from models import words_of, writes_item
from rows import DEEP, FLAT, MACHINES, SHORT_ITEMS, as_tuple, chance_rows
from things import NOT_WHOLE, PLAIN_THINGS, asked_twice, figures_at_once, nested, refused_twice

ROW = (("line", (3, -2), 5), ("wait", 10), ("tool", "up"), ("mark", "ab"), ("line", (0, -100), 20), ("tool", "down"))
TEXT = "line 3 -2 5\nwait 10\ntool up\nmark ab\nline 0 -100 20\ntool down"


def expected_at(machine, text):
    """The number of the first row that writes no item, or None."""
    if text == "":
        return None
    for at, row in enumerate(re.split("\n", text)):
        if at == 20 or not writes_item(machine, row):
            return at
    return None


class Shown(unittest.TestCase):

    def shows(self, function, thing, text):
        told = asked_twice(self, function, thing)
        self.assertEqual(told, text)
        self.assertIs(type(told), str)

    def test_fractions(self):
        for one, text in (
                ((0, 1), "0"), ((1, 1), "1"), ((-1, 1), "-1"), ((1, 2), "1/2"), ((-1, 2), "-1/2"), ((10, 1), "10"),
                ((7, 10), "7/10"), ((-100, 99), "-100/99"), ((10 ** 29, 1), "1" + "0" * 29),
                ((10 ** 30 - 1, 10 ** 29), "9" * 30 + "/1" + "0" * 29), ((1, 10 ** 30 - 1), "1/" + "9" * 30),
                ((1 - 10 ** 30, 10 ** 30 - 2), "-" + "9" * 30 + "/" + "9" * 29 + "8")):
            self.shows(show_fraction, one, text)

    def test_chance_fractions(self):
        source = random.Random(241)
        for turn in range(300):
            value = Fraction(source.randrange(1 - 10 ** 30, 10 ** 30), source.randrange(1, 10 ** source.choice((1, 30))))
            self.shows(show_fraction, as_tuple(value), str(value))

    def test_no_items(self):
        self.shows(show_items, (), "")

    def test_items(self):
        self.shows(show_items, ROW, TEXT)
        for item, text in zip(ROW, TEXT.split("\n")):
            self.shows(show_items, (item,), text)
        self.shows(show_items, (("line", (0, -1, 100), 1), ("mark", "zzzzzzzz")), "line 0 -1 100 1\nmark zzzzzzzz")
        self.shows(show_items, (("wait", 1), ("wait", 1000)), "wait 1\nwait 1000")

    def test_rows_of_twenty(self):
        long = tuple(("line", (100, -100), 20) for turn in range(20))
        self.shows(show_items, long, "\n".join(["line 100 -100 20"] * 20))

    def test_chance_rows(self):
        for machine, items, rate in chance_rows(242, 120):
            self.shows(show_items, items, "\n".join(words_of(item) for item in items))

    def test_entries(self):
        for entry, text in (
                (("step", (1, -1), 35, (3, 1)), "step 1 -1 35 3"), (("step", (0, 1, -1), 1, (7, 2)), "step 0 1 -1 1 7/2"),
                (("step", (-1, 0), 1415, (1, 200)), "step -1 0 1415 1/200"), (("wait", 7), "wait 7"),
                (("tool", "up"), "tool up"), (("tool", "down"), "tool down"), (("mark", "step"), "mark step")):
            self.shows(show_entry, entry, text)

    def test_entries_of_tapes(self):
        for machine, items, rate in chance_rows(243, 42):
            for entry in tape_of(machine, items, rate):
                text = words_of(entry)
                if entry[0] == "step":
                    text = " ".join([words_of(entry[:3]), str(Fraction(*entry[3]))])
                self.shows(show_entry, entry, text)


class LongNumbers(unittest.TestCase):
    """What is told has as many figures as it needs, however few Python itself writes at once."""

    def numbers(self):
        source = random.Random(244)
        for count in (39, 40, 41, 63, 64, 65, 127, 128, 129, 639, 640, 641, 1280, 4299, 4300, 4301, 5000, 20000):
            for number in (10 ** count, 10 ** count - 1, 10 ** count + 1, 10 ** count - 10 ** (count // 2),
                           10 ** count + 10 ** 64, source.randrange(10 ** (count - 1), 10 ** count)):
                yield number
                yield -number

    def shows(self, function, thing, words):
        """The words, those that are no texts written by Python, with one blank between."""
        with figures_at_once(0):
            expected = " ".join(str(word) for word in words)
        for most in (640, 4300):
            with figures_at_once(most):
                told = function(thing)
            # Not by assertEqual: it would show both texts, whatever their length.
            self.assertTrue(told == expected, (len(told), len(expected)))
            self.assertIs(type(told), str)

    def test_upper_numbers(self):
        for number in self.numbers():
            self.shows(show_fraction, (number, 1), [number])

    def test_both_numbers(self):
        for number in self.numbers():
            self.shows(show_fraction, as_tuple(Fraction(number, abs(number) + 1)), [Fraction(number, abs(number) + 1)])
            self.shows(show_fraction, as_tuple(Fraction(1, abs(number))), [Fraction(1, abs(number))])

    def test_entries(self):
        for number in self.numbers():
            square = Fraction(abs(number) + 1, abs(number))
            self.shows(show_entry, ("step", (1, -1), 61, as_tuple(square)), ["step 1 -1 61", square])
            self.shows(show_entry, ("step", (1, 0, 0), abs(number), (7, 2)), ["step 1 0 0", abs(number), "7/2"])


class Read(unittest.TestCase):

    def reads(self, machine, text, items):
        told = asked_twice(self, read_items, machine, text)
        self.assertEqual(repr(told), repr(items))

    def refuses(self, machine, text, at):
        for refusal in refused_twice(self, NoText, read_items, machine, text):
            self.assertEqual(refusal.at, at, repr(text)[:300])
            self.assertIs(type(refusal.at), int)

    def is_read_as_due(self, machine, text):
        """Held against the patterns; what is read writes the text again."""
        at = expected_at(machine, text)
        if at is None:
            told = asked_twice(self, read_items, machine, text)
            self.assertIs(type(told), tuple)
            self.assertEqual(show_items(told), text)
        else:
            self.refuses(machine, text, at)
        return at

    def test_examples(self):
        self.reads(FLAT, "", ())
        self.reads(FLAT, TEXT, ROW)
        self.reads(DEEP, "line 0 -1 100 1\nmark zzzzzzzz", (("line", (0, -1, 100), 1), ("mark", "zzzzzzzz")))
        for item, row in zip(ROW, TEXT.split("\n")):
            self.reads(FLAT, row, (item,))

    def test_what_was_written_reads_again(self):
        for machine, items, rate in chance_rows(251, 210):
            self.reads(machine, show_items(items), items)
        for machine in MACHINES:
            self.reads(machine, show_items(SHORT_ITEMS), SHORT_ITEMS)

    def test_leads_do_not_count(self):
        long = tuple(("line", (100, -100), 20) for turn in range(20))
        self.reads(FLAT, show_items(long), long)

    def test_things_that_are_no_text(self):
        for thing in NOT_WHOLE + PLAIN_THINGS + (ROW, list(ROW), (TEXT,), [TEXT], nested(TEXT, 8, list)):
            if not isinstance(thing, str):
                self.refuses(FLAT, thing, 0)

    def test_texts_that_write_no_item(self):
        for text in ("a", " ", "\n", "~", "0", "1", "line", "line ", "line 1", "line 1 2", "line 0 0 5", "line 1 2 0",
                     "line 1 2 21", "line 101 0 5", "line -101 0 5", "line 1 2 3 4", "line 1 2 -3", "wait", "wait ",
                     "wait 0", "wait 1001", "wait -1", "wait a", "wait 1 2", "tool", "tool ", "tool left", "tool Up",
                     "tool up up", "mark", "mark ", "mark abcdefghi", "mark A", "mark a1", "mark a b", "mark -",
                     "step 1 0 5 3", "to 1 2 3", "hold", "LINE 1 2 3", "Wait 1", "line 1,2,3", "line 1 2 3,",
                     "wait 1/1", "wait 1.0", "wait 1_0", "wait ten", "line (1, 2) 3", "wait +1", "wait 01", "line 1 2 05",
                     "line -0 1 5", "line 00 1 5", "line 1 -02 5", "line +1 2 5", "line 1 2 +5", "line - 2 5",
                     "line 1 --2 5", "line 1 2- 5", "line  1 2 5", "line 1  2 5", "line 1 2  5", " line 1 2 5",
                     "line 1 2 5 ", "wait  5", "wait 5 ", " wait 5", "tool  up", "tool up ", " tool up", "mark  a",
                     "mark a ", " mark a", "wait " + "1" * 1400, "line " + "9" * 700 + " 1 5", "mark " + "a" * 1400,
                     "w" * 1500, "wait -0", "wait 1\t", "linea 1 2 5", "line 1 2 5a"):
            self.refuses(FLAT, text, 0)
            self.refuses(FLAT, text + "\nwait 5", 0)
            self.refuses(FLAT, "wait 5\n" + text, 1)
            self.refuses(FLAT, TEXT + "\n" + text, 6)
            self.assertEqual(expected_at(FLAT, text), 0, text)

    def test_long_numbers(self):
        for most in (640, 4300):
            with figures_at_once(most):
                for figures in ("1" * 641, "9" * 1400, "5" * 4301):
                    for text in (f"wait {figures}", f"wait -{figures}", f"line 1 {figures} 5", f"line 1 2 {figures}"):
                        self.refuses(FLAT, text, 0)
                        self.refuses(FLAT, "wait 5\n" + text, 1)

    def test_empty_rows_and_line_ends(self):
        self.refuses(FLAT, TEXT + "\n", 6)
        self.refuses(FLAT, "\n" + TEXT, 0)
        self.refuses(FLAT, "wait 5\n\nwait 5", 1)
        self.refuses(FLAT, "wait 5\n", 1)
        self.refuses(FLAT, "\n\n\n", 0)

    def test_the_row_of_a_machine_of_the_other_number_of_axes(self):
        self.refuses(DEEP, TEXT, 0)
        self.refuses(DEEP, "wait 5\n" + TEXT, 1)
        self.refuses(FLAT, "tool up\nline 0 -1 100 1", 1)
        self.reads(DEEP, "line 1 2 3 4", (("line", (1, 2, 3), 4),))
        self.reads(FLAT, "line 1 2 3", (("line", (1, 2), 3),))

    def test_twenty_and_more(self):
        row = ["wait 7"] * 20
        self.reads(FLAT, "\n".join(row), (("wait", 7),) * 20)
        for more in (["wait 7"], ["wait 7"] * 5, [""], ["a"], ["wait 7", "a"]):
            self.refuses(FLAT, "\n".join(row + more), 20)
        for at in range(20):
            spoiled = row[:at] + ["wait 07"] + row[at + 1:]
            self.refuses(FLAT, "\n".join(spoiled), at)
            self.refuses(FLAT, "\n".join(spoiled + ["wait 7"]), at)

    def test_signs_left_out_put_in_and_exchanged(self):
        faults = set()
        for machine, text in ((FLAT, TEXT), (DEEP, "line 0 -1 100 1\nmark zz\nline 20 3 -4 10\nwait 1000")):
            for at in range(len(text) + 1):
                faults.add(self.is_read_as_due(machine, text[:at] + text[at + 1:]))
                for sign in " 0123456789-+abetuz./,~\nW":
                    faults.add(self.is_read_as_due(machine, text[:at] + sign + text[at:]))
                    faults.add(self.is_read_as_due(machine, text[:at] + sign + text[at + 1:]))
        self.assertEqual(faults, {None, 0, 1, 2, 3, 4, 5, 6})

    def test_chance_changes(self):
        source = random.Random(252)
        for machine, items, rate in chance_rows(253, 120):
            text = show_items(items)
            for turn in range(10):
                signs = list(text)
                for number in range(source.choice((1, 2, 3))):
                    at = source.randrange(len(signs) + 1)
                    signs[at:at + source.choice((0, 1, 1, 2))] = source.choice(("", "", " ", "0", "1", "-", "\n", "a"))
                self.is_read_as_due(machine, "".join(signs))

    def test_rows_left_out_put_in_and_exchanged(self):
        source = random.Random(254)
        for machine, items, rate in chance_rows(255, 60):
            rows = show_items(items).split("\n")
            source.shuffle(rows)
            self.is_read_as_due(machine, "\n".join(rows))
            self.is_read_as_due(machine, "\n".join(rows + rows))
            self.is_read_as_due(machine, " ".join(rows))

    def test_every_number(self):
        for number in range(-3, 1004):
            self.is_read_as_due(FLAT, f"wait {number}")
        for number in range(-103, 104):
            self.is_read_as_due(FLAT, f"line {number} 0 5")
            self.is_read_as_due(FLAT, f"line 0 {number} 5")
            self.is_read_as_due(FLAT, f"line 0 1 {number}")


if __name__ == "__main__":
    unittest.main()
