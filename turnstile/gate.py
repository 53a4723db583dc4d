"""The gate: it lets visits of names by, or tells which bound shuts them out and for how long."""

from turnstile.checks import check_cost, check_moment, copied_bounds
from turnstile.errors import Late, NoName
from turnstile.meters import new_meters, take_by_all, wait_for_all

LONGEST_NAME = 8


class Gate:
    """A gate with bounds for each name by itself, and bounds for all names together."""

    def __init__(self, own, common=None):
        self._own = copied_bounds(own)
        self._common = [] if common is None else new_meters(copied_bounds(common))
        # Only names of which somebody was let by have meters here.
        self._meters = {}
        # No moment is before 0, so nobody is late at a gate by which nobody came.
        self._last = 0

    def ask(self, name, moment, cost):
        """Whether the visit is let by: open, or shut by which bound and how long; changes nothing."""
        self._check(name, moment, cost)
        return self._answer(self._meters_of(name), moment, cost)

    def visit(self, name, moment, cost):
        """Tells the same as ask, and lets the visit by where it is open."""
        answer = self.ask(name, moment, cost)
        if answer[0] == "open":
            own = self._meters_of(name)
            take_by_all(own + self._common, moment, cost)
            self._meters[name] = own
            self._last = moment
        return answer

    def names(self):
        """The names of which somebody was let by, rising."""
        return sorted(self._meters)

    def kept(self):
        """How many visits all meters keep, each meter's counted."""
        meters = list(self._common)
        for own in self._meters.values():
            meters.extend(own)
        return sum([meter.kept() for meter in meters])

    def _check(self, name, moment, cost):
        if not _is_name(name):
            raise NoName(f"a name is a text of 1 to {LONGEST_NAME} letters a to z")
        check_moment(moment)
        if moment < self._last:
            raise Late(f"the last one was let by at moment {self._last}")
        check_cost(cost)

    def _meters_of(self, name):
        """The own meters of this name; new ones where nobody of it was let by yet."""
        if name in self._meters:
            return self._meters[name]
        return new_meters(self._own)

    def _answer(self, own, moment, cost):
        """Open, or shut with the first bound that the visit breaks and the wait by all of them."""
        for which, meters in (("own", own), ("common", self._common)):
            for k, meter in enumerate(meters):
                if not meter.can(moment, cost):
                    return ("shut", which, k, wait_for_all(own + self._common, moment, cost))
        return ("open",)


def _is_name(name):
    """Whether this is a text of few enough letters a to z."""
    if not isinstance(name, str) or not 1 <= len(name) <= LONGEST_NAME:
        return False
    return all(["a" <= sign <= "z" for sign in name])
