"""Things to hand in, and ways to ask that watch what is handed in."""

import copy
import sys
from contextlib import contextmanager


def nested(inner, depth, kind):
    """The inner thing within so many lists or tuples."""
    thing = inner
    for level in range(depth):
        thing = kind([thing])
    return thing


# None of these is a whole number.
NOT_WHOLE = (
    True, False, None, "", "1", "a", " ", "~", [], [1], [2, 3], (), (1,), (1, 2), (0, 1),
    nested(1, 8, list), nested(1, 8, tuple),
)

# None of these is a fraction, a machine, a place or an item of a machine.
PLAIN_THINGS = (
    True, False, None, 0, 1, -1, 10 ** 39, -(10 ** 40 - 1), "", "a", "1", "1/2", "(1, 2)", "~ {}",
    [], (), [[]], ((),), ((), ()), ([], []), (None, None), (None,), [None] * 5, (None,) * 5,
    (True, True), (False, True), ("1", "2"), ((1, 2), (3, 4)), ((1, 2),), [(1, 2)], [[1, 2]],
    nested(1, 7, list), nested(1, 8, list), nested(1, 7, tuple), nested(1, 8, tuple),
    nested((1, 2), 7, tuple), nested([1, 2], 7, list), (nested(1, 7, tuple), 1), (1, nested(1, 7, list)),
    [1] * 499, (1,) * 499, ["a"] * 499, "a" * 1500, tuple("abcde"), "abcde", (1, 2, 3, 4), (1, 2, 3, 4, 5),
)


@contextmanager
def figures_at_once(most):
    """Meanwhile Python itself writes and reads numbers of at most so many figures, or any ones where that is 0."""
    before = sys.get_int_max_str_digits()
    sys.set_int_max_str_digits(most)
    try:
        yield
    finally:
        sys.set_int_max_str_digits(before)


def with_one_changed(row, at, thing):
    return row[:at] + (thing,) + row[at + 1:]


def with_one_less(row, at):
    return row[:at] + row[at + 1:]


def with_one_more(row, at, thing):
    return row[:at] + (thing,) + row[at:]


def asked_twice(case, function, *things):
    """What the function tells both times; the things stay as they are, down to their kinds."""
    before = copy.deepcopy(things)
    first = function(*things)
    second = function(*things)
    case.assertEqual(repr(first), repr(second))
    case.assertEqual(repr(things), repr(before))
    return first


def refused_twice(case, error, function, *things):
    """The two refusals, both of the very class; the things stay as they are."""
    before = copy.deepcopy(things)
    refusals = []
    for turn in range(2):
        with case.assertRaises(error) as caught:
            function(*things)
        case.assertIs(type(caught.exception), error)
        refusals.append(caught.exception)
    case.assertEqual(repr(things), repr(before))
    return refusals


def list_of_its_own(case, function, *things):
    """The list that the function tells; whatever is done to it, the same one is told again."""
    first = asked_twice(case, function, *things)
    case.assertIs(type(first), list)
    expected = copy.deepcopy(first)
    kept = function(*things)
    for spoil in (list.clear, list.reverse, lambda row: row.append("more"), lambda row: row.__setitem__(slice(1), [0])):
        told = function(*things)
        spoil(told)
        case.assertEqual(repr(function(*things)), repr(expected))
    case.assertEqual(repr(kept), repr(expected))
    return expected
