"""How certificates are found."""

from neverrounds.certificates import Alibi, Avoidance, Meeting, Trap, shadow_rows
from neverrounds.meets import delays, lags, may_meet
from neverrounds.stairs import can_avoid, free_at_once, reach_sets
from neverrounds.walks import walk
from neverrounds.ways import Ways, filled, leasts


def meeting(first, second, apart):
    """A Meeting with the least lag, or None if the groups never share a room."""
    found = lags(first, second, apart)
    if len(found) == 0:
        return None
    _, i, j, room = min(found)
    early, late = delays(first, second, apart, (i, j))
    first_lengths = filled(first, len(first), first.shortest + early)
    second_lengths = filled(second, len(second), second.shortest + late)
    _, enter, _ = walk(first, 0, first_lengths)[i - 1]
    _, come, _ = walk(second, apart, second_lengths)[j - 1]
    return Meeting(first, second, apart, first_lengths, second_lengths, room, max(enter, come))


def alibi(first, second, apart):
    """The Alibi, or None if the groups can share a room."""
    if apart in may_meet(first, second):
        return None
    return Alibi(first, second, apart, shadow_rows(first, second, apart))


def avoidance(first, second, apart):
    """An Avoidance, or None if the groups surely share a room."""
    if free_at_once(first, second, apart):
        return Avoidance(first, second, apart, leasts(first), leasts(second))
    ways = Ways(first, second, apart)
    for (i, j), offsets in ways.reached.items():
        if (i > len(first) or j > len(second)) and len(offsets) > 0:
            first_lengths, second_lengths = ways.lengths_into((i, j), offsets.lowest)
            return Avoidance(first, second, apart, first_lengths, second_lengths)
    return None


def trap(first, second, apart):
    """A Trap, or None if the groups can avoid each other."""
    if can_avoid(first, second, apart):
        return None
    reached = reach_sets(first, second, apart)
    return Trap(first, second, apart, [(i, j, offsets) for (i, j), offsets in reached.items()])
