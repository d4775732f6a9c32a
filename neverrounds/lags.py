"""How much longer all stays can last before two groups can share a room."""

from neverrounds.meets import visits


def spare_lag(first, second, apart):
    """The greatest lag of every stay with which the groups still never share a room, None if there is none.

    It is -1 if they can share one without any lag.
    """
    spares = []
    for i, j, _, low, high in visits(first, second):
        # A minute of lag moves low down once for each step of the second group up to j, and high up likewise for i.
        spares.append(spare_minutes(low - apart, j) if apart < low else spare_minutes(apart - high, i))
    return min(spares, default=None)


def spare_minutes(missing, times):
    """The greatest number of minutes that, taken some times, stays below what is missing; -1 if nothing is missing."""
    return (max(0, missing) - 1) // times
