"""The meters: whether a visit can come by behind those that did, and how long it waits else."""


class Meter:
    """What each meter can be asked; JarMeter and WindowMeter answer."""

    def can(self, moment, cost):
        """Whether the bound is kept if this visit comes by now."""
        raise NotImplementedError("the meter of a Jar or a Window tells who can come by")

    def wait(self, moment, cost):
        """The least number of moments behind this one at which the visit can; None where it never can."""
        raise NotImplementedError("the meter of a Jar or a Window tells the wait")

    def take(self, moment, cost):
        """Lets the visit by; asked only where it can."""
        raise NotImplementedError("the meter of a Jar or a Window takes visits")

    def kept(self):
        """How many visits this meter keeps."""
        raise NotImplementedError("the meter of a Jar or a Window keeps visits")


class JarMeter(Meter):
    """The meter of a jar: costs fill it, the flow empties it, and it never holds more than its size.

    Its level is the most by which the costs of a stretch that ends now are more than the
    flow over it. So the row keeps the bound just where the level is never above the size.
    """

    def __init__(self, size, flow):
        self._size = size
        self._flow = flow
        self._level = 0
        self._moment = None

    def can(self, moment, cost):
        """Whether the jar has room for this cost at this moment."""
        return self._level_at(moment) + cost <= self._size

    def wait(self, moment, cost):
        """How long it takes until the jar has room for this cost; None where it never has."""
        if cost > self._size:
            return None
        excess = self._level_at(moment) + cost - self._size
        if excess <= 0:
            return 0
        if self._flow == 0:
            return None
        # The flow comes in whole moments, so a part of one counts as one.
        return (excess + self._flow - 1) // self._flow

    def take(self, moment, cost):
        """Fills the jar by this cost."""
        self._level = self._level_at(moment) + cost
        self._moment = moment

    def kept(self):
        """Always 0: the level tells all that matters of those that came by."""
        return 0

    def _level_at(self, moment):
        # Each cost is at least 1, so a level of 0 is that of a jar by which nobody came: it has no last moment.
        if self._level == 0:
            return 0
        return max(0, self._level - self._flow * (moment - self._moment))


class WindowMeter(Meter):
    """The meter of a window: it keeps the visits that a stretch to come may still have."""

    def __init__(self, most, span):
        self._most = most
        self._span = span
        # Each row is the moment of a visit and the costs of all visits up to it, those that
        # are gone too: so one difference tells the costs behind a row, however many there are.
        self._rows = []
        self._gone = 0
        self._total = 0

    def can(self, moment, cost):
        """Whether this cost fits beside those less than span moments ago."""
        return self.wait(moment, cost) == 0

    def wait(self, moment, cost):
        """How long it takes until enough visits are span moments ago; None where none would do."""
        if cost > self._most:
            return None
        due = self._total + cost - self._most
        if due <= self._gone:
            return 0
        last_due = self._rows[_place_reaching(self._rows, due)][0]
        return max(0, last_due + self._span - moment)

    def take(self, moment, cost):
        """Keeps this visit, and forgets those that no stretch to come is short enough for."""
        self._forget(moment - self._span)
        self._total += cost
        self._rows.append((moment, self._total))

    def kept(self):
        """How many visits came by less than span moments before the last one, itself with them."""
        return len(self._rows)

    def _forget(self, moment):
        """Drops the rows up to this moment."""
        many = 0
        while many < len(self._rows) and self._rows[many][0] <= moment:
            many += 1
        if many > 0:
            self._gone = self._rows[many - 1][1]
            del self._rows[:many]


def new_meters(bounds):
    """A new meter of each of these bounds, in their order."""
    return [bound.meter() for bound in bounds]


def wait_for_all(meters, moment, cost):
    """The least number of moments behind this one at which all can let the visit by; None where they never can.

    Who can come by a meter at a moment can at each later one, so the longest wait does for all.
    """
    longest = 0
    for meter in meters:
        wait = meter.wait(moment, cost)
        if wait is None:
            return None
        longest = max(longest, wait)
    return longest


def take_by_all(meters, moment, cost):
    """Lets the visit by each of these meters."""
    for meter in meters:
        meter.take(moment, cost)


def _place_reaching(rows, total):
    """The place of the first row whose total is no less than this one; there is such a row."""
    low = 0
    high = len(rows) - 1
    while low < high:
        middle = (low + high) // 2
        if rows[middle][1] < total:
            low = middle + 1
        else:
            high = middle
    return low
