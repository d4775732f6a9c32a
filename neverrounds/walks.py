"""Walks: what a group does that walks a round with certain lengths."""

from neverrounds.errors import BadLengths
from neverrounds.rounds import HALL


def check_lengths(tour, lengths):
    """Refuse a list of lengths that does not fit the round."""
    wrong = tour.misfit(lengths)
    if wrong is not None:
        raise BadLengths(wrong)


def walk(tour, start, lengths):
    """The steps of a group as tuples (room, enter, leave)."""
    check_lengths(tour, lengths)
    steps = []
    enter = start
    for (room, _, _), length in zip(tour.stays, lengths):
        steps.append((room, enter, enter + length))
        enter = enter + length
    return steps


def shared(one, other):
    """The first moment at which two walks share a room, with this room, or None."""
    found = []
    for room, enter, leave in one:
        for place, come, gone in other:
            moment = max(enter, come)
            if room == place and room != HALL and moment < min(leave, gone):
                found.append((moment, room))
    return min(found, default=None)
