"""The shadows of two rounds beside each other."""

from neverrounds.moments import Moments


def probe(first, second):
    """The least (moment, room) in the shadow of the first round but not in that of the second, or None."""
    shadow, other = first(0), second(0)
    found = []
    for room, moments in shadow.items():
        alone = moments ^ (moments & other.get(room, Moments.none()))
        if len(alone) > 0:
            found.append((alone.lowest, room))
    return min(found, default=None)


def compare(first, second):
    """Tell in a word whether one of the shadows lies in the other one."""
    if probe(first, second) is None:
        return "alike" if probe(second, first) is None else "less"
    return "more" if probe(second, first) is None else "apart"
