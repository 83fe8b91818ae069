"""Texts: fractions, items and entries written, and rows of items read again."""

from glidequeue.errors import NoText
from glidequeue.items import is_item, is_line

MOST_ITEMS = 20
FIGURES = "0123456789"


def show_fraction(one):
    p, q = one
    return str(p) if q == 1 else f"{p}/{q}"


def show_numbers(numbers):
    return " ".join([str(number) for number in numbers])


def show_item(item):
    if is_line(item):
        word, steps, speed = item
        return f"{word} {show_numbers(steps)} {speed}"
    word, value = item
    return f"{word} {value}"


def show_items(items):
    return "\n".join([show_item(item) for item in items])


def show_entry(entry):
    if entry[0] != "step":
        return show_item(entry)
    word, row, t, square = entry
    return f"{word} {show_numbers(row)} {t} {show_fraction(square)}"


def read_items(machine, text):
    if not isinstance(text, str):
        raise NoText(0)
    if text == "":
        return ()
    told = []
    for at, row in enumerate(text.split("\n")):
        item = item_in(machine, row)
        if item is None or at == MOST_ITEMS:
            raise NoText(at)
        told.append(item)
    return tuple(told)


def item_in(machine, row):
    """The item of the machine that the row writes, or None."""
    word, *rest = row.split(" ")
    thing = None
    if word == "line":
        numbers = numbers_in(rest)
        thing = (word, tuple(numbers[:-1]), numbers[-1]) if numbers else None
    elif len(rest) == 1:
        thing = (word, number_in(rest[0]) if word == "wait" else rest[0])
    return thing if is_item(machine, thing) else None


def numbers_in(words):
    return [number_in(word) for word in words]


def number_in(word):
    """The whole number that the word writes, or None."""
    figures = word.removeprefix("-")
    if figures == "" or not all([sign in FIGURES for sign in figures]):
        return None
    # A nought comes first in no number but 0, which has no sign.
    if figures[0] == "0" and word != "0":
        return None
    return int(word)
