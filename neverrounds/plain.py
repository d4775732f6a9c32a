"""Every list of lengths, one by one: the plain way to a word."""

from neverrounds.walks import shared, walk
from neverrounds.ways import leasts


def following(tour, lengths):
    """The list of lengths after this one, or None after the last one."""
    for step in range(len(lengths), 0, -1):
        if lengths[step - 1] < tour[step][2]:
            return lengths[:step - 1] + [lengths[step - 1] + 1] + leasts(tour)[step:]
    return None


def every_lengths(tour):
    """Yield every list of lengths that fits the round, in ascending order."""
    lengths = leasts(tour)
    while lengths is not None:
        # A copy, so that the caller may change what it gets.
        yield list(lengths)
        lengths = following(tour, lengths)


def plain_word(first, second, apart):
    """The word of two groups, by trying all pairs of lists of lengths."""
    ones = [walk(first, 0, lengths) for lengths in every_lengths(first)]
    others = [walk(second, apart, lengths) for lengths in every_lengths(second)]
    met = [shared(one, other) is not None for one in ones for other in others]
    if all(met):
        return "surely"
    return "maybe" if any(met) else "never"
