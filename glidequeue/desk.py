"""The desk: a runner that is told rows of text, and answers with texts."""

from glidequeue.errors import NoLine, NoMachine, NoPlace
from glidequeue.items import GREATEST_SPEED
from glidequeue.machines import is_machine, is_place
from glidequeue.plans import plan_of
from glidequeue.runner import Runner
from glidequeue.texts import (
    item_in, number_in, numbers_in, show_entry, show_fraction, show_items, show_number, show_numbers,
)
from glidequeue.wholes import is_whole_within

MOST_ENTRIES = 100
NOTHING = "none"


def answer_hold(runner):
    return show_number(runner.hold())


def answer_go(runner):
    return show_number(runner.go())


def answer_drop(runner):
    return show_number(runner.drop())


def answer_place(runner):
    return show_numbers(runner.place())


def answer_square(runner):
    return show_fraction(runner.square())


def answer_stop(runner):
    return show_number(runner.stops_in())


def answer_waits(runner):
    return show_items(runner.waiting()) or NOTHING


def answer_plan(runner):
    plan = plan_of(runner.machine, tuple(runner.waiting()), runner.rate())
    return " ".join([show_fraction(square) for square in plan])


def answer_tool(runner):
    return runner.tool()


def answer_mark(runner):
    return runner.last_mark() or NOTHING


def answer_state(runner):
    held = "held" if runner.is_held() else "free"
    return f"{held} stands" if runner.stands() else f"{held} goes"


# The rows of one word alone.
ANSWERS = {
    "hold": answer_hold,
    "go": answer_go,
    "drop": answer_drop,
    "place": answer_place,
    "square": answer_square,
    "stop": answer_stop,
    "waits": answer_waits,
    "plan": answer_plan,
    "tool": answer_tool,
    "mark": answer_mark,
    "state": answer_state,
}


class Desk:
    """A desk with a runner of its own."""

    def __init__(self, machine, place):
        if not is_machine(machine):
            raise NoMachine("the thing is no machine")
        if not is_place(machine, place):
            raise NoPlace("the thing is no place of the machine")
        self.machine = machine
        self.runner = Runner(machine, place)

    def say(self, text):
        if not isinstance(text, str):
            raise NoLine("only texts are told to a desk")
        word, *rest = text.split(" ")
        if word in ANSWERS and not rest:
            answer = ANSWERS[word]
            return answer(self.runner)
        if word == "to":
            return self.say_to(rest)
        if word == "steps":
            return self.say_steps(rest)
        if word == "rate":
            return self.say_rate(rest)
        item = item_in(self.machine, text)
        if item is None:
            raise NoLine("the text is no row that a desk can be told")
        return show_number(self.runner.feed(item))

    def say_to(self, words):
        numbers = numbers_in(words)
        place = tuple(numbers[:-1])
        if not is_place(self.machine, place) or not is_whole_within(numbers[-1], 1, GREATEST_SPEED):
            raise NoLine("behind to come a place and a speed")
        steps = tuple([number - begun for number, begun in zip(place, self.runner.leads_to())])
        return show_number(self.runner.feed(("line", steps, numbers[-1])))

    def say_steps(self, words):
        number = only_number(words)
        if not is_whole_within(number, 0, MOST_ENTRIES):
            raise NoLine("behind steps comes a number from 0 to 100")
        return "\n".join([show_entry(entry) for entry in self.runner.entries(number)]) or NOTHING

    def say_rate(self, words):
        number = only_number(words)
        if number is None:
            raise NoLine("behind rate comes a number")
        return show_number(self.runner.turn_rate(number))


def only_number(words):
    """The number that the one word writes; None where it writes none, or there is another number of words."""
    return number_in(words[0]) if len(words) == 1 else None
