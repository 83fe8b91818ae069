"""Lines cut to steps: the lead, the ways of the axes, and where they stand behind each step."""

from glidequeue.fractions import fraction


def lead_of(line):
    return max([abs(step) for step in line[1]])


def ways_of(line):
    lead = lead_of(line)
    return tuple([fraction(step, lead) for step in line[1]])


def stand_at(line, k):
    lead = lead_of(line)
    return tuple([nearest(k * step, lead) for step in line[1]])


def step_rows(line):
    rows = []
    before = stand_at(line, 0)
    for k in range(1, lead_of(line) + 1):
        behind = stand_at(line, k)
        rows.append(tuple([new - old for new, old in zip(behind, before)]))
        before = behind
    return rows


def nearest(p, q):
    """The whole number nearest to p over q, q above 0; of two as near the one farther from 0."""
    # A half rounded up leads away from 0 only above it, so the sign stays out till the end.
    size = (2 * abs(p) + q) // (2 * q)
    return size if p >= 0 else -size
