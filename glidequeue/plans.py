"""Plans: the greatest square of the speed at each border of a row of items."""

from glidequeue.corners import corner_square, top_square
from glidequeue.fractions import NOUGHT, least, plus_whole
from glidequeue.items import is_line
from glidequeue.lines import lead_of


def own_bounds(machine, items, rate):
    if not items:
        # The first border is the last one, too.
        return [NOUGHT]
    between = [bound_between(machine, one, other, rate) for one, other in zip(items, items[1:])]
    return [NOUGHT] + between + [NOUGHT]


def bound_between(machine, one, other, rate):
    """The own bound of the border at which the one item ends and the other begins."""
    if not is_line(one) or not is_line(other):
        return NOUGHT
    squares = [top_square(one, rate), top_square(other, rate)]
    corner = corner_square(machine, one, other)
    if corner is not None:
        squares.append(corner)
    return least(squares)


def plan_of(machine, items, rate):
    # The falls break no rise: a border that is lowered for a fall is still above the one behind it.
    risen = kept_by_rise(machine, items, own_bounds(machine, items, rate))
    return kept_by_fall(machine, items, risen)


def kept_by_rise(machine, items, squares):
    """The squares, each lowered to what can be risen to from those ahead of it."""
    rise = machine[1]
    kept = list(squares)
    for i, item in enumerate(items):
        if is_line(item):
            kept[i + 1] = least([kept[i + 1], plus_whole(kept[i], 2 * rise * lead_of(item))])
    return kept


def kept_by_fall(machine, items, squares):
    """The squares, each lowered to what can be fallen from to those behind it."""
    fall = machine[2]
    kept = list(squares)
    for i in reversed(range(len(items))):
        if is_line(items[i]):
            kept[i] = least([kept[i], plus_whole(kept[i + 1], 2 * fall * lead_of(items[i]))])
    return kept


def planned_on(machine, items, squares, item, rate):
    plan = plan_of(machine, items + (item,), rate)
    return (plan, first_other(squares, plan))


def first_other(squares, plan):
    """The first border at which the plan has another square; where none has, how many squares there are."""
    for i, square in enumerate(squares):
        if plan[i] != square:
            return i
    return len(squares)
