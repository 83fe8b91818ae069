"""Reasons: which own bound keeps the square of a border as it is planned."""

from glidequeue.fractions import plus_whole
from glidequeue.items import is_line
from glidequeue.lines import lead_of
from glidequeue.plans import own_bounds, plan_of


def reason_of(machine, items, rate, border):
    bounds = own_bounds(machine, items, rate)
    square = plan_of(machine, items, rate)[border]
    if square == bounds[border]:
        return ("own", border)
    risen_from = border_ahead(machine, items, bounds, square, border)
    if risen_from is not None:
        return ("rise", risen_from)
    return ("fall", border_behind(machine, items, bounds, square, border))


def border_ahead(machine, items, bounds, square, border):
    """The nearest border ahead from whose own bound a rise along lines alone comes to just the square, or None."""
    leads = 0
    for j in reversed(range(border)):
        if not is_line(items[j]):
            return None
        leads += lead_of(items[j])
        if plus_whole(bounds[j], 2 * machine[1] * leads) == square:
            return j
    return None


def border_behind(machine, items, bounds, square, border):
    """The nearest border behind to whose own bound a fall along lines alone comes from just the square, or None."""
    leads = 0
    for j in range(border, len(items)):
        if not is_line(items[j]):
            return None
        leads += lead_of(items[j])
        if plus_whole(bounds[j + 1], 2 * machine[2] * leads) == square:
            return j + 1
    return None
