"""The book: it takes visits ahead of time, and gives them back."""

from turnstile.checks import check_bound, check_cost, check_moment, copied_bounds
from turnstile.errors import Broken, Full, NoPlace, NoVisit
from turnstile.limits import is_within
from turnstile.meters import new_meters, take_by_all, wait_for_all
from turnstile.stretches import broken

MOST_VISITS = 40


class Book:
    """A row of visits that keeps all bounds, whatever is put, dropped and changed."""

    def __init__(self, bounds):
        self._bounds = copied_bounds(bounds)
        self._row = []

    def visits(self):
        """The row: by moments, of one moment in the order in which they were put."""
        return list(self._row)

    def put(self, moment, cost):
        """Takes this visit into the row; refuses one with which the row would break a bound."""
        check_moment(moment)
        check_cost(cost)
        if len(self._row) >= MOST_VISITS:
            raise Full(f"a book holds at most {MOST_VISITS} visits")
        row = _row_with(self._row, moment, cost)
        for k, bound in enumerate(self._bounds):
            _check_keeps(k, bound, row)
        self._row = row

    def drop(self, moment, cost):
        """Gives back the first visit of this moment and this cost."""
        check_moment(moment)
        check_cost(cost)
        if (moment, cost) not in self._row:
            raise NoVisit(f"there is no visit of moment {moment} and cost {cost}")
        self._row.remove((moment, cost))

    def change(self, k, bound):
        """Makes this one the k-th bound; refuses one that the row would break."""
        if not is_within(k, 0, len(self._bounds) - 1):
            raise NoPlace(f"the places of the bounds are those from 0 to below {len(self._bounds)}")
        check_bound(bound)
        _check_keeps(k, bound, self._row)
        self._bounds[k] = bound

    def earliest(self, moment, cost):
        """The least moment from this one on at which the visit could be put; None where there is none."""
        check_moment(moment)
        check_cost(cost)
        meters = new_meters(self._bounds)
        at = moment
        place = 0
        while True:
            place = self._take_up_to(meters, place, at)
            wait = wait_for_all(meters, at, cost)
            if wait is None:
                return None
            if wait > 0:
                at += wait
            elif self._is_kept_with(at, cost):
                return at
            else:
                # No stretch that ends here is broken, so one that goes on to later visits is. With
                # the visit at any moment up to the next of them, that stretch has the same visits,
                # and where it begins at this one, no more room: it stays broken.
                at = self._row[place][0] + 1

    def _take_up_to(self, meters, place, moment):
        """Lets the visits from this place up to this moment by the meters; tells the place behind them."""
        while place < len(self._row) and self._row[place][0] <= moment:
            take_by_all(meters, self._row[place][0], self._row[place][1])
            place += 1
        return place

    def _is_kept_with(self, moment, cost):
        """Whether the row with this visit keeps all bounds."""
        row = _row_with(self._row, moment, cost)
        return all([broken(bound, row) is None for bound in self._bounds])


def _row_with(row, moment, cost):
    """A new row that has this visit, too, behind all up to its moment."""
    place = len(row)
    while place > 0 and row[place - 1][0] > moment:
        place -= 1
    return row[:place] + [(moment, cost)] + row[place:]


def _check_keeps(k, bound, row):
    """Refuses a row that does not keep this bound, which is at place k."""
    stretch = broken(bound, row)
    if stretch is not None:
        raise Broken(k, stretch)
