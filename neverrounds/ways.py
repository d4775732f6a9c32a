"""Lengths with which two groups come to where the staircase says that they can come."""

from neverrounds.moments import Moments
from neverrounds.stairs import all_reached, first_cells


def leasts(tour):
    """The list of the least lengths."""
    return [least for _, least, _ in tour.stays]


def mosts(tour):
    """The list of the greatest lengths."""
    return [most for _, _, most in tour.stays]


def filled(tour, count, minutes):
    """Lengths of the first count stays that last some minutes together, the first of them as long as they can."""
    lengths = []
    spare = minutes - tour.earliest(count)
    for _, least, most in tour.stays[:count]:
        lag = min(spare, most - least)
        lengths.append(least + lag)
        spare = spare - lag
    return lengths


class Ways:
    """The ways on which two groups come into their cells at a difference."""

    def __init__(self, first, second, apart):
        self.first = first
        self.second = second
        self.apart = apart
        self.starts = first_cells(first, second, apart)
        self.reached = all_reached(first, second, apart)

    def step_back(self, cell, offset):
        """The last move into a cell: the lengths that it ended, 0 for none, and the cell and the offset before it."""
        i, j = cell
        a, b, p, q = 0, 0, 0, 0
        # The sign of the offset tells which group came into its step last, so this one has just left another one.
        if offset <= 0:
            i = i - 1
            _, a, b = self.first[i]
        if offset >= 0:
            j = j - 1
            _, p, q = self.second[j]
        before = self.reached[i, j].clipped(offset + a - q, offset + b - p).lowest
        second_length = max(p, offset + a - before)
        return before - offset + second_length, second_length, (i, j), before

    def lengths_into(self, cell, offset):
        """Lengths of both groups with which they come into a cell with an offset that the reach sets hold.

        From there on all stays last as long as they can: so a group that is not home when the other one is
        surely still is in the step of the cell.
        """
        i, j = cell
        first_lengths = mosts(self.first)[i - 1:]
        second_lengths = mosts(self.second)[j - 1:]
        while offset not in self.starts.get(cell, Moments.none()):
            one, other, cell, offset = self.step_back(cell, offset)
            if one > 0:
                first_lengths = [one] + first_lengths
            if other > 0:
                second_lengths = [other] + second_lengths
        i, j = cell
        # Only the group that started first has steps behind it in the first common cell.
        return (filled(self.first, i - 1, self.apart - offset) + first_lengths,
                filled(self.second, j - 1, offset - self.apart) + second_lengths)
