"""The differences at which two groups can meet."""

from neverrounds.moments import Moments
from neverrounds.rounds import HALL


def visits(first, second):
    """Yield (i, j, room, low, high) for every step i of first and step j of second in the same room."""
    for i, (room, _, _) in enumerate(first.stays, start=1):
        for j, (place, _, _) in enumerate(second.stays, start=1):
            if room == place and room != HALL:
                low = first.earliest(i - 1) - second.latest(j) + 1
                high = first.latest(i) - 1 - second.earliest(j - 1)
                yield i, j, room, low, high


def may_meet(first, second):
    """The set of all differences at which some lengths let the groups share a room."""
    return Moments([(low, high) for _, _, _, low, high in visits(first, second)])


def delays(first, second, apart, cell):
    """By how many minutes each group must lag so that the two meet in a cell; at most one must lag at all."""
    i, j = cell
    early = apart + second.earliest(j - 1) + 1 - first.earliest(i)
    late = first.earliest(i - 1) - apart + 1 - second.earliest(j)
    return max(0, early), max(0, late)


def lags(first, second, apart):
    """The tuples (lag, i, j, room) of the visits in which the groups can meet, each with its least lag."""
    found = []
    for i, j, room, low, high in visits(first, second):
        if low <= apart <= high:
            found.append((max(delays(first, second, apart, (i, j))), i, j, room))
    return found


def least_lag(first, second, apart):
    """The least lag of lengths with which the groups share a room, or None if no lengths let them."""
    return min([lag for lag, _, _, _ in lags(first, second, apart)], default=None)
