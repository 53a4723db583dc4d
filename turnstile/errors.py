"""The errors: one class for each kind of refusal."""


class GateError(ValueError):
    """Something that is refused."""


class NoBound(GateError):
    """What is no bound, or a bound too many."""


class NoMoment(GateError):
    """What is no moment."""


class NoCost(GateError):
    """What is no cost."""


class NoName(GateError):
    """What is no name."""


class NoPlace(GateError):
    """What is no place of a bound."""


class NoVisit(GateError):
    """A visit that is not there."""


class Late(GateError):
    """A moment before the last one that was let by."""


class Full(GateError):
    """A visit for which a book has no place left."""


class BadRow(GateError):
    """A row of a text that cannot be read."""


class Never(GateError):
    """A cost, told by its place, that can come by at no moment."""

    def __init__(self, place):
        super().__init__(f"the cost at place {place} can come by at no moment")
        self.place = place


class Broken(GateError):
    """A bound, told by its place k, that is broken in a stretch."""

    def __init__(self, k, stretch):
        super().__init__(f"the bound at place {k} is broken in the stretch {stretch}")
        self.k = k
        self.stretch = stretch
