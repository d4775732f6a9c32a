"""Who can be the first of two groups to wait in the waiting house."""

from neverrounds.moments import Moments
from neverrounds.stairs import is_shared, reach_sets
from neverrounds.ways import Ways


class FirstWait:
    """A wait that can be the first one: who waits, in which steps, where, how long, and lengths for the longest one."""

    def __init__(self, who, first_step, second_step, room, minutes, first_lengths, second_lengths):
        self.who = who
        self.first_step = first_step
        self.second_step = second_step
        self.room = room
        self.minutes = minutes
        self.first_lengths = list(first_lengths)
        self.second_lengths = list(second_lengths)


def first_waits(first, second, apart):
    """The list of the waits that can be the first one, at most one for each step of either group and each of them."""
    ways = Ways(first, second, apart)
    found = []
    for cell, offsets in reach_sets(first, second, apart).items():
        if is_shared(first, second, cell):
            found.extend(waits_in(ways, cell, offsets))
    return found


def waits_in(ways, cell, offsets):
    """The first waits that begin in a shared cell, into which the groups come with these offsets."""
    i, j = cell
    room, a, b = ways.first[i]
    _, p, q = ways.second[j]
    found = []
    early = offsets.clipped(1 - q, -1)
    if len(early) > 0:
        # The second group is in the room when the first one comes, so it leaves at least 1 minute later.
        minutes = (early + Moments.span(p, q)).clipped(1, q)
        first_lengths, second_lengths = ways.lengths_into(cell, early.highest)
        found.append(FirstWait(1, i, j, room, minutes, first_lengths, second_lengths))
    late = offsets.clipped(0, b - 1)
    if len(late) > 0:
        minutes = (Moments.span(a, b) - late).clipped(1, b)
        first_lengths, second_lengths = ways.lengths_into(cell, late.lowest)
        found.append(FirstWait(2, i, j, room, minutes, first_lengths, second_lengths))
    return found
