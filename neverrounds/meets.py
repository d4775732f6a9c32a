"""The differences at which two groups can meet."""

from neverrounds.moments import Moments
from neverrounds.rounds import HALL


def visits(first, second):
    """Yield (i, j, room, low, high) for every step i of first and step j of second in the same room."""
    for i, (room, _, _) in enumerate(first.stays, start=1):
        for j, (place, _, _) in enumerate(second.stays, start=1):
            if room == place and room != HALL:
                low = first.earliest(i - 1) - second.latest(j) + 1
                high = first.latest(i) - 1 - second.earliest(j - 1)
                yield i, j, room, low, high


def may_meet(first, second):
    """The set of all differences at which some lengths let the groups share a room."""
    return Moments([(low, high) for _, _, _, low, high in visits(first, second)])


def least_lag(first, second, apart):
    """The least lag of lengths with which the groups share a room, or None if no lengths let them."""
    lags = []
    for i, j, _, low, high in visits(first, second):
        if low <= apart <= high:
            early = apart + second.earliest(j - 1) + 1 - first.earliest(i)
            late = first.earliest(i - 1) - apart + 1 - second.earliest(j)
            lags.append(max(0, early, late))
    return min(lags, default=None)
