"""Texts: fractions, items and entries written, and rows of items read again."""

from glidequeue.errors import NoText
from glidequeue.items import is_item, is_line

MOST_ITEMS = 20
FIGURES = "0123456789"
PART_FIGURES = 64
PART = 10 ** 64


def show_number(number):
    # Python refuses to write a long number at once, so it is written in parts.
    rest = abs(number)
    parts = []
    while rest >= PART:
        rest, low = divmod(rest, PART)
        parts.append(str(low).zfill(PART_FIGURES))
    parts.append(str(rest))
    written = "".join(reversed(parts))
    return f"-{written}" if number < 0 else written


def show_numbers(numbers):
    return " ".join([show_number(number) for number in numbers])


def show_fraction(one):
    p, q = one
    return show_number(p) if q == 1 else f"{show_number(p)}/{show_number(q)}"


def show_item(item):
    if is_line(item):
        word, steps, speed = item
        return f"{word} {show_numbers(steps)} {show_number(speed)}"
    word, value = item
    return f"{word} {show_number(value)}" if word == "wait" else f"{word} {value}"


def show_items(items):
    return "\n".join([show_item(item) for item in items])


def show_entry(entry):
    if entry[0] != "step":
        return show_item(entry)
    word, row, t, square = entry
    return f"{word} {show_numbers(row)} {show_number(t)} {show_fraction(square)}"


def read_items(machine, text):
    if not isinstance(text, str):
        raise NoText(0)
    if text == "":
        return ()
    told = []
    for at, row in enumerate(text.split("\n")):
        item = item_in(machine, row)
        if item is None or at == MOST_ITEMS:
            raise NoText(at)
        told.append(item)
    return tuple(told)


def item_in(machine, row):
    """The item of the machine that the row writes, or None."""
    word, *rest = row.split(" ")
    thing = None
    if word == "line":
        numbers = numbers_in(rest)
        thing = (word, tuple(numbers[:-1]), numbers[-1]) if numbers else None
    elif len(rest) == 1:
        thing = (word, number_in(rest[0]) if word == "wait" else rest[0])
    return thing if is_item(machine, thing) else None


def numbers_in(words):
    return [number_in(word) for word in words]


def number_in(word):
    """The whole number that the word writes, or None."""
    figures = word.removeprefix("-")
    if figures == "" or not all([sign in FIGURES for sign in figures]):
        return None
    # A nought comes first in no number but 0, which has no sign.
    if figures[0] == "0" and word != "0":
        return None
    size = size_of(figures)
    return -size if word.startswith("-") else size


def size_of(figures):
    """The whole number from 0 on that the figures write, however many they are."""
    size = 0
    for figure in figures:
        size = 10 * size + int(figure)
    return size
