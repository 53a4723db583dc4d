"""What all that takes bounds, moments and costs refuses alike."""

from turnstile.bounds import Jar, Window
from turnstile.errors import NoBound, NoCost, NoMoment
from turnstile.limits import is_within

MOST_BOUNDS = 4
LARGEST_MOMENT = 10 ** 12
LARGEST_COST = 10 ** 9


def check_bound(bound):
    """Refuses what is no bound."""
    if not isinstance(bound, (Jar, Window)):
        raise NoBound("a bound is a Jar or a Window")


def copied_bounds(bounds):
    """A list of these bounds of its own; refuses more of them than may be, and what is none."""
    if len(bounds) > MOST_BOUNDS:
        raise NoBound(f"there are at most {MOST_BOUNDS} bounds")
    for bound in bounds:
        check_bound(bound)
    return list(bounds)


def check_moment(moment):
    """Refuses what is no moment."""
    if not is_within(moment, 0, LARGEST_MOMENT):
        raise NoMoment(f"a moment is a number from 0 to {LARGEST_MOMENT}")


def check_cost(cost):
    """Refuses what is no cost."""
    if not is_within(cost, 1, LARGEST_COST):
        raise NoCost(f"a cost is a number from 1 to {LARGEST_COST}")
