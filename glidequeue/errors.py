"""The refusals that the package tells, each a class of its own under GlideError."""


class GlideError(ValueError):
    """Any refusal of the package."""


class NoFraction(GlideError):
    """Two things that come to no fraction."""


class NoRate(GlideError):
    """A thing that is no rate."""


class NoItem(GlideError):
    """A thing that is no item of the machine."""


class OffRails(GlideError):
    """An item that leads off the rails; at is its number."""

    def __init__(self, at):
        self.at = at


class Full(GlideError):
    """A queue that takes no item more."""


class Moving(GlideError):
    """A deed that asks for a runner that stands."""


class NoTape(GlideError):
    """A thing that is no tape; at is the number of the wrong entry, why the number of what is wrong."""

    def __init__(self, at, why):
        self.at = at
        self.why = why


class NoText(GlideError):
    """A thing that writes no row of items; at is the number of its first wrong row."""

    def __init__(self, at):
        self.at = at


class NoMachine(GlideError):
    """A thing that is no machine."""


class NoPlace(GlideError):
    """A thing that is no place of the machine."""


class NoLine(GlideError):
    """A thing that the desk cannot be told."""
