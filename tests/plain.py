"""The document's words on bounds, gone through plainly, to hold the program's answers against.

No answer here is the program's own. A bound is told as ("jar", size, flow) or ("window", most, span).
"""

from turnstile.bounds import Jar, Window

FAR = 10 ** 40


def made(told):
    """The program's bound of a told one."""
    kind, first, second = told
    return Jar(first, second) if kind == "jar" else Window(first, second)


def room(told, first, last):
    """Point 2: the room of a stretch, or None."""
    kind, large, small = told
    if kind == "jar":
        return large + small * (last - first)
    return large if last - first < small else None


def broken(told, visits):
    """Points 3 and 4: the first broken one of all stretches that begin and end at visits."""
    at = {}
    for moment, cost in visits:
        at[moment] = at.get(moment, 0) + cost
    moments = sorted(at)
    for k, first in enumerate(moments):
        total = 0
        for last in moments[k:]:
            total += at[last]
            space = room(told, first, last)
            if space is not None and total > space:
                return (first, last)
    return None


def keeps(told, visits):
    """Point 3, over all stretches whatever, at visits or not: for visits at small moments only."""
    end = visits[-1][0] + 2 if visits else 2
    for first in range(-1, end):
        for last in range(first, end):
            space = room(told, first, last)
            total = sum(cost for moment, cost in visits if first <= moment <= last)
            if space is not None and total > space:
                return False
    return True


def can(told, came, moment, cost):
    """Point 5: whether those that came by and this visit behind them keep the bound."""
    return broken(told, [*came, (moment, cost)]) is None


def wait(told, came, moment, cost):
    """Point 5, moment by moment: for small numbers only."""
    enough = sum(paid for _, paid in came) + cost + told[2] + 1
    for more in range(enough):
        if can(told, came, moment + more, cost):
            return more
    return None


def in_reach(told, came):
    """Point 5: how many visits are in the stretch of less than span that ends at the last one."""
    if told[0] == "jar" or not came:
        return 0
    return sum(1 for moment, _ in came if came[-1][0] - moment < told[2])


def small_bounds(most):
    """All jars and windows of numbers up to most."""
    for large in range(1, most + 1):
        for small in range(most + 1):
            yield ("jar", large, small)
            if small > 0:
                yield ("window", large, small)


def small_bound(chance):
    """A jar or window of small numbers."""
    if chance.random() < 0.5:
        return ("jar", chance.randint(1, 12), chance.randint(0, 3))
    return ("window", chance.randint(1, 12), chance.randint(1, 6))


def large_bound(chance):
    """A jar or window of numbers up to the largest."""
    large = large_number(chance, 1, 10 ** 15)
    if chance.random() < 0.5:
        return ("jar", large, large_number(chance, 0, 10 ** 9))
    return ("window", large, large_number(chance, 1, 10 ** 12))


def large_number(chance, least, largest):
    """A number of any size within limits, these and round ones more often than others."""
    if chance.random() < 0.1:
        return chance.choice([least, largest])
    top = 10 ** chance.randint(0, len(str(largest)) - 1)
    number = chance.choice([top, top - 1, chance.randint(0, top)])
    return max(least, min(largest, number))


def small_row(chance, many):
    """A row of visits of small numbers, many of them at alike moments."""
    moment = 0
    row = []
    for _ in range(many):
        moment += chance.choice([0, 0, 1, 1, 2, 5])
        row.append((moment, chance.randint(1, 6)))
    return row


def large_row(chance, many):
    """A row of visits of large numbers, some at alike moments."""
    moments = sorted(large_number(chance, 0, 10 ** 12) for _ in range(many))
    return [(moment, large_number(chance, 1, 10 ** 9)) for moment in moments]


def near_row(chance, told, many):
    """A row of visits whose costs and moments are about as large as a bound's numbers."""
    moment = 0
    row = []
    cost = max(1, min(10 ** 9, told[1] // 3))
    gap = max(1, told[2] // 3 if told[0] == "window" else cost // max(1, told[2]))
    for _ in range(many):
        moment += chance.choice([0, 1, gap, chance.randint(0, 2 * gap)])
        row.append((moment, chance.randint(1, min(10 ** 9, 2 * cost))))
    return row
