"""Plans: the earliest moments of visits behind each other."""

from turnstile.checks import check_cost, check_moment, copied_bounds
from turnstile.errors import Never
from turnstile.meters import new_meters, take_by_all, wait_for_all


def plan(bounds, moment, costs):
    """The least moments, from this one on and never falling, at which visits of these costs can come by.

    To come by sooner helps none of those behind: each bound only tells how long behind the
    one that begins a stretch the one that ends it must be. So the least moment of each, taken
    one by one, is the least of all rows that keep the bounds.
    """
    meters = new_meters(copied_bounds(bounds))
    check_moment(moment)
    for cost in costs:
        check_cost(cost)
    at = moment
    moments = []
    for place, cost in enumerate(costs):
        wait = wait_for_all(meters, at, cost)
        if wait is None:
            raise Never(place)
        at += wait
        take_by_all(meters, at, cost)
        moments.append(at)
    return moments
