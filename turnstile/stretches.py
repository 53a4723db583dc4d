"""The stretches of a row of visits, and the first one that breaks a bound."""


def broken(bound, visits):
    """The broken stretch (first, last) of the least first, then of the least last; None where none is.

    Places in the row stand for moments. A stretch has all visits of its moments, but where a
    part of them is already more than its room, all are, so no visit is left out by this.
    """
    moments = [moment for moment, _ in visits]
    totals = _totals_ahead(visits)

    def excess(start, end):
        """How much the costs from start to end are above their room; None where nothing bounds them."""
        room = bound.room(moments[start], moments[end])
        if room is None:
            return None
        return totals[end + 1] - totals[start] - room

    first = _first_start(len(moments), excess)
    if first is None:
        return None
    last = first
    while excess(first, last) <= 0:
        last += 1
    return (moments[first], moments[last])


def _totals_ahead(visits):
    """The costs ahead of each place together, and those ahead of the end."""
    totals = [0]
    for _, cost in visits:
        totals.append(totals[-1] + cost)
    return totals


def _first_start(many, excess):
    """The first of the places at which a broken stretch begins; None where none does.

    The end is always the one of the largest excess from start. When start goes back by one,
    the excess of all later ends changes by the same, the cost there less what a jar's flow
    adds, and a window drops just the latest of them. So only the new start is weighed against
    the end, and one going through is enough for rows of any length.
    """
    found = None
    end = many - 1
    for start in reversed(range(many)):
        while excess(start, end) is None:
            end -= 1
        if excess(start, start) > excess(start, end):
            end = start
        if excess(start, end) > 0:
            found = start
    return found
