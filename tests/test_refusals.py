"""Each error class: two ways to come to it, and none of the ten others."""

import unittest

from glidequeue import errors
from glidequeue.corners import top_square
from glidequeue.desk import Desk
from glidequeue.fractions import fraction
from glidequeue.items import ends
from glidequeue.looker import look
from glidequeue.runner import Runner
from glidequeue.texts import read_items
from rows import FLAT

LINE = ("line", (3, -2), 5)
NAMES = ("NoFraction", "NoRate", "NoItem", "OffRails", "Full", "Moving", "NoTape", "NoText", "NoMachine", "NoPlace",
         "NoLine")


def going():
    runner = Runner(FLAT, (1, 2))
    runner.feed(LINE)
    runner.entries(1)
    return runner


def full():
    runner = Runner(FLAT, (1, 2))
    for count in range(20):
        runner.feed(("wait", 1))
    return runner


def full_desk():
    desk = Desk(FLAT, (1, 2))
    for count in range(20):
        desk.say("wait 1")
    return desk


# The name of the class, a way to come to it, and the values that it has then.
WAYS = (
    ("NoFraction", lambda: fraction(1, 0), {}),
    ("NoFraction", lambda: fraction(True, 1), {}),
    ("NoRate", lambda: top_square(LINE, 9), {}),
    ("NoRate", lambda: Runner(FLAT, (1, 2)).turn_rate(201), {}),
    ("NoRate", lambda: going().turn_rate(None), {}),
    ("NoRate", lambda: Desk(FLAT, (1, 2)).say("rate 9"), {}),
    ("NoItem", lambda: Runner(FLAT, (1, 2)).feed(("wait", 0)), {}),
    ("NoItem", lambda: full().feed(("line", (0, 0), 5)), {}),
    ("NoItem", lambda: Desk(FLAT, (1, 2)).say("to 1 2 5"), {}),
    ("NoItem", lambda: full_desk().say("to 1 2 5"), {}),
    ("OffRails", lambda: ends(FLAT, (1, 2), (("wait", 1), ("line", (10, 0), 5))), {"at": 1}),
    ("OffRails", lambda: going().feed(("line", (7, 0), 5)), {"at": 1}),
    ("OffRails", lambda: full().feed(("line", (10, 0), 5)), {"at": 20}),
    ("OffRails", lambda: Desk(FLAT, (1, 2)).say("line 10 0 5"), {"at": 0}),
    ("Full", lambda: full().feed(("wait", 1)), {}),
    ("Full", lambda: full_desk().say("to 3 3 5"), {}),
    ("Moving", lambda: going().drop(), {}),
    ("Moving", lambda: going().turn_rate(100), {}),
    ("Moving", lambda: Runner(FLAT, (1, 2)).drop(), {}),
    ("Moving", lambda: Desk(FLAT, (1, 2)).say("drop"), {}),
    ("NoTape", lambda: look(FLAT, (LINE,), 100, ()), {"at": 0, "why": 1}),
    ("NoTape", lambda: look(FLAT, (("wait", 1),), 100, [("wait", 1), None]), {"at": 1, "why": 1}),
    ("NoTape", lambda: look(FLAT, (("line", (1, 0), 5),), 100, [("step", (1, 0), 9, (3, 1))]), {"at": 0, "why": 2}),
    ("NoTape", lambda: look(FLAT, (("line", (1, 0), 1),), 100, [("step", (1, 0), 35, (3, 1))]), {"at": 0, "why": 3}),
    ("NoTape", lambda: look(FLAT, (("line", (1, 0), 5),), 100, [("step", (1, 0), 30, (4, 1))]), {"at": 0, "why": 4}),
    ("NoText", lambda: read_items(FLAT, "wait 1\nwait 0"), {"at": 1}),
    ("NoText", lambda: read_items(FLAT, None), {"at": 0}),
    ("NoMachine", lambda: Desk(FLAT[:4], (1, 2)), {}),
    ("NoMachine", lambda: Desk(None, None), {}),
    ("NoPlace", lambda: Desk(FLAT, (11, 0)), {}),
    ("NoPlace", lambda: Desk(FLAT, [1, 2]), {}),
    ("NoLine", lambda: Desk(FLAT, (1, 2)).say("halt"), {}),
    ("NoLine", lambda: full_desk().say("to 11 0 5"), {}),
    ("NoLine", lambda: Desk(FLAT, (1, 2)).say(7), {}),
)


class Refusals(unittest.TestCase):

    def test_each_way(self):
        for name, way, values in WAYS:
            with self.subTest(name=name, values=values):
                with self.assertRaises(errors.GlideError) as caught:
                    way()
                self.assertIs(type(caught.exception), getattr(errors, name))
                for other in NAMES:
                    self.assertEqual(isinstance(caught.exception, getattr(errors, other)), other == name)
                for value in values:
                    self.assertEqual(getattr(caught.exception, value), values[value])

    def test_two_ways_at_least(self):
        names = [name for name, way, values in WAYS]
        self.assertEqual(set(names), set(NAMES))
        for name in NAMES:
            self.assertGreaterEqual(names.count(name), 2, name)


if __name__ == "__main__":
    unittest.main()
