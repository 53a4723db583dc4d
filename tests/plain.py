"""The document's words on bounds, gone through plainly, to hold the program's answers against.

No answer here is the program's own. A bound is told as ("jar", size, flow) or ("window", most, span).
"""

from turnstile.bounds import Bound, Jar, Window

FAR = 10 ** 40

# Point 1: what is no number, and with it what is no moment and no cost. Point 7: what is no bound.
NO_NUMBERS = (True, False, None, 1.0, "1", "", b"1", [1], (1,), {}, object())
NO_MOMENTS = (-1, -10 ** 30, 10 ** 12 + 1, 10 ** 30, *NO_NUMBERS)
NO_COSTS = (0, -1, -10 ** 30, 10 ** 9 + 1, 10 ** 30, *NO_NUMBERS)
NO_BOUNDS = (None, 1, True, "jar", ("jar", 1, 0), [1, 0], {}, object(), Bound(), Jar, Jar(1, 0).meter())


def made(told):
    """The program's bound of a told one."""
    kind, first, second = told
    return Jar(first, second) if kind == "jar" else Window(first, second)


def room(told, first, last):
    """Point 2: the room of a stretch, or None."""
    kind, large, small = told
    if kind == "jar":
        return large + small * (last - first)
    return large if last - first < small else None


def broken(told, visits):
    """Points 3 and 4: the first broken one of all stretches that begin and end at visits."""
    at = {}
    for moment, cost in visits:
        at[moment] = at.get(moment, 0) + cost
    moments = sorted(at)
    for k, first in enumerate(moments):
        total = 0
        for last in moments[k:]:
            total += at[last]
            space = room(told, first, last)
            if space is not None and total > space:
                return (first, last)
    return None


def keeps(told, visits):
    """Point 3, over all stretches whatever, at visits or not: for visits at small moments only."""
    end = visits[-1][0] + 2 if visits else 2
    for first in range(-1, end):
        for last in range(first, end):
            space = room(told, first, last)
            total = sum(cost for moment, cost in visits if first <= moment <= last)
            if space is not None and total > space:
                return False
    return True


def can(told, came, moment, cost):
    """Point 5: whether those that came by and this visit behind them keep the bound."""
    return broken(told, [*came, (moment, cost)]) is None


def wait(told, came, moment, cost):
    """Point 5, moment by moment: for small numbers only."""
    enough = sum(paid for _, paid in came) + cost + told[2] + 1
    for more in range(enough):
        if can(told, came, moment + more, cost):
            return more
    return None


def in_reach(told, came):
    """Point 5: how many visits are in the stretch of less than span that ends at the last one."""
    if told[0] == "jar" or not came:
        return 0
    return sum(1 for moment, _ in came if came[-1][0] - moment < told[2])


def first_broken(bounds, visits):
    """Point 12: the place of the first bound that the row breaks, and the stretch; None where it keeps all."""
    for k, told in enumerate(bounds):
        stretch = broken(told, visits)
        if stretch is not None:
            return (k, stretch)
    return None


def ends(told, visits, cost):
    """The moments behind which a stretch that begins at one of the visits may have room for one more.

    Whatever part of the row the stretch has: just behind the last moment at which it is too much.
    """
    found = []
    for k, (first, _) in enumerate(visits):
        total = cost
        for _, paid in visits[k:]:
            total += paid
            if told[0] == "window":
                found.append(first + told[2])
            elif told[2] > 0:
                found.append(first - (told[1] - total) // told[2])
    return found


def wait_by_all(rows, moment, cost):
    """Point 8: the least wait until all bounds can; rows has pairs of a bound and those that came by it."""
    known = [end - moment for told, came in rows for end in ends(told, came, cost)]
    for more in sorted({0, *(end for end in known if end > 0)}):
        if all(can(told, came, moment + more, cost) for told, came in rows):
            return more
    return None


def of(came, name):
    """The visits of one name."""
    return [(moment, cost) for other, moment, cost in came if other == name]


def of_all(came):
    """The visits of all names."""
    return [(moment, cost) for _, moment, cost in came]


def gate_answer(own, common, came, name, moment, cost):
    """Point 8: what a gate tells of a visit behind those that came, by all stretches."""
    rows = [(told, of(came, name)) for told in own] + [(told, of_all(came)) for told in common]
    places = [("own", k) for k in range(len(own))] + [("common", k) for k in range(len(common))]
    for (told, row), (which, k) in zip(rows, places):
        if not can(told, row, moment, cost):
            return ("shut", which, k, wait_by_all(rows, moment, cost))
    return ("open",)


def with_visit(row, moment, cost):
    """Point 12: the row with this visit, behind those of its moment."""
    return sorted([*row, (moment, cost)], key=lambda visit: visit[0])


def earliest(bounds, row, moment, cost):
    """Point 13: the first of all moments behind which something may change, at which the row is kept."""
    known = {moment}
    known.update(at + 1 for at, _ in row)
    for told in bounds:
        known.update(ends(told, row, cost))
    for at in sorted(at for at in known if at >= moment):
        if first_broken(bounds, with_visit(row, at, cost)) is None:
            return at
    return None


def state(thing):
    """All that an object holds, to see whether it changed."""
    if isinstance(thing, dict):
        return {key: state(value) for key, value in thing.items()}
    if isinstance(thing, (list, tuple)):
        return [state(value) for value in thing]
    if hasattr(thing, "__dict__"):
        return (type(thing), state(vars(thing)))
    return thing


def small_bounds(most):
    """All jars and windows of numbers up to most."""
    for large in range(1, most + 1):
        for small in range(most + 1):
            yield ("jar", large, small)
            if small > 0:
                yield ("window", large, small)


def small_bound(chance):
    """A jar or window of small numbers."""
    if chance.random() < 0.5:
        return ("jar", chance.randint(1, 12), chance.randint(0, 3))
    return ("window", chance.randint(1, 12), chance.randint(1, 6))


def large_bound(chance):
    """A jar or window of numbers up to the largest."""
    large = large_number(chance, 1, 10 ** 15)
    if chance.random() < 0.5:
        return ("jar", large, large_number(chance, 0, 10 ** 9))
    return ("window", large, large_number(chance, 1, 10 ** 12))


def roomy_bound(chance):
    """A jar or window of small numbers that mostly has room for a small cost in the end."""
    if chance.random() < 0.5:
        return ("jar", chance.randint(5, 24), chance.choice([0, 1, 1, 1, 2, 2, 3]))
    return ("window", chance.randint(5, 24), chance.randint(1, 20))


def any_bounds(chance, made_one):
    """None to four bounds."""
    return [made_one(chance) for _ in range(chance.randint(0, 4))]


def near_bounds(chance):
    """None to four bounds, with a cost and a gap of moments to which the numbers of all of them are near."""
    cost = large_number(chance, 10, 10 ** 9)
    gap = large_number(chance, 1, 10 ** 10)
    found = []
    for _ in range(chance.randint(0, 4)):
        large = cost * chance.randint(3, 20) // 2
        flow = min(10 ** 9, cost // gap + chance.randint(0, 1)) * chance.choice([0, 1, 1, 1, 1, 1])
        span = gap * chance.randint(1, 12)
        found.append(chance.choice([("jar", large, flow), ("window", large, span)]))
    return (found, cost, gap)


def small_visits(chance, many):
    """None to four bounds of small numbers, and a row of visits for them."""
    return (any_bounds(chance, roomy_bound), small_row(chance, many))


def near_visits(chance, many):
    """None to four bounds of numbers of any size, and a row of visits with costs and gaps near to all of them."""
    bounds, cost, gap = near_bounds(chance)
    moment = 0
    row = []
    for _ in range(many):
        moment += chance.choice([0, 1, gap, chance.randint(0, 2 * gap)])
        row.append((moment, chance.randint(1, min(10 ** 9, 2 * cost))))
    late = chance.choice([0, 0, 10 ** 12 - moment])
    return (bounds, [(moment + late, paid) for moment, paid in row])


def large_visits(chance, many):
    """None to four bounds of any numbers, and a row of visits of any numbers."""
    return (any_bounds(chance, large_bound), large_row(chance, many))


def large_number(chance, least, largest):
    """A number of any size within limits, these and round ones more often than others."""
    if chance.random() < 0.1:
        return chance.choice([least, largest])
    top = 10 ** chance.randint(0, len(str(largest)) - 1)
    number = chance.choice([top, top - 1, chance.randint(0, top)])
    return max(least, min(largest, number))


def small_row(chance, many):
    """A row of visits of small numbers, many of them at alike moments."""
    moment = 0
    row = []
    for _ in range(many):
        moment += chance.choice([0, 0, 1, 1, 2, 5])
        row.append((moment, chance.randint(1, 6)))
    return row


def large_row(chance, many):
    """A row of visits of large numbers, some at alike moments."""
    moments = sorted(large_number(chance, 0, 10 ** 12) for _ in range(many))
    return [(moment, large_number(chance, 1, 10 ** 9)) for moment in moments]


def near_row(chance, told, many):
    """A row of visits whose costs and moments are about as large as a bound's numbers."""
    moment = 0
    row = []
    cost = max(1, min(10 ** 9, told[1] // 3))
    gap = max(1, told[2] // 3 if told[0] == "window" else cost // max(1, told[2]))
    for _ in range(many):
        moment += chance.choice([0, 1, gap, chance.randint(0, 2 * gap)])
        row.append((moment, chance.randint(1, min(10 ** 9, 2 * cost))))
    return row
