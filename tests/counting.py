"""What the tests count out one by one, without the program."""

from itertools import product


def members(moments):
    """The integers of a set of moments, as a plain set."""
    return {x for low, high in moments.spans for x in range(low, high + 1)}


def spans_of(numbers):
    """The spans that a plain set of integers must have."""
    spans = []
    for number in sorted(numbers):
        if spans and spans[-1][1] == number - 1:
            spans[-1] = (spans[-1][0], number)
        else:
            spans.append((number, number))
    return spans


def subsets(numbers):
    """All plain sets of some of the numbers."""
    numbers = list(numbers)
    return [{x for x, taken in zip(numbers, word) if taken} for word in product((False, True), repeat=len(numbers))]
