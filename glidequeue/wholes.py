"""Whole numbers, told apart from truths."""


def is_whole(thing):
    # A truth is an int to Python, but no whole number here.
    return isinstance(thing, int) and not isinstance(thing, bool)


def is_whole_within(thing, low, high):
    return is_whole(thing) and low <= thing <= high
