"""Clocks: which differences of two groups matter."""

from neverrounds.errors import BadLength
from neverrounds.figures import write_number
from neverrounds.meets import may_meet
from neverrounds.moments import Moments


class Clock:
    """A clock on which each group walks once, at any moments."""

    def __init__(self, length):
        if length < 1:
            raise BadLength(length)
        self.length = length

    def placed(self, start):
        """The start as the clock keeps it."""
        return start

    def turned(self, moments):
        """The set of some moments as the clock keeps them."""
        return moments

    def meets(self, differences, apart):
        """Tell whether a difference is in a set of differences on this clock."""
        return apart in differences

    def can_meet(self, first, second, apart):
        """Tell whether two groups can share a room on this clock."""
        return self.meets(may_meet(first, second), apart)

    def verdict(self, parting, apart):
        """The word of two rounds at a difference on this clock."""
        if self.meets(parting.surely, apart):
            return "surely"
        return "maybe" if self.meets(parting.may, apart) else "never"

    def fits(self, tour, start):
        """Tell whether a round can be placed at a start."""
        return all([most <= self.length for _, _, most in tour.stays])

    def last_start(self, tour):
        """The greatest start below the length at which a round fits that fits at 0."""
        return self.length - 1

    def widest_gap(self, tour, count):
        """The greatest gap between neighbours in a row of groups that is asked about."""
        return tour.longest

    def bad_gaps(self, differences, times, widest):
        """The set of the gaps from 1 to the widest one that, taken some times, meet a set of differences."""
        return (differences // times).clipped(1, widest)

    def words(self):
        """The clock as a text."""
        return write_number(self.length)


class Day(Clock):
    """A clock on which each group walks once, from moment 0 to the length."""

    def fits(self, tour, start):
        """Tell whether a round can be placed at a start, so that it surely ends in time."""
        return super().fits(tour, start) and 0 <= start and start + tour.longest <= self.length

    def last_start(self, tour):
        """The greatest start from which a round surely ends in time."""
        return self.length - tour.longest

    def widest_gap(self, tour, count):
        """The greatest gap with which a row of groups fits the day."""
        return (self.length - tour.longest) // (count - 1)

    def words(self):
        """The clock as a text."""
        return f"day {write_number(self.length)}"


class Ring(Clock):
    """A clock on which each group starts again whenever the length has passed."""

    def placed(self, start):
        """The start as the clock keeps it, from 0 to the length minus 1."""
        return start % self.length

    def turned(self, moments):
        """The set of some moments as the clock keeps them, from 0 to the length minus 1."""
        return moments % self.length

    def meets(self, differences, apart):
        """Tell whether a set of differences has this one, or one that is some turns of the ring away."""
        return self.placed(apart) in self.turned(differences)

    def fits(self, tour, start):
        """Tell whether a round can be placed at a start, so that no two of its copies can meet."""
        return super().fits(tour, start) and (may_meet(tour, tour) // self.length).within(Moments.span(0, 0))

    def widest_gap(self, tour, count):
        """The greatest gap: behind it the gaps repeat."""
        return self.length

    def bad_gaps(self, differences, times, widest):
        """The set of the gaps from 1 to the widest one that, taken some times, meet a set of differences."""
        once = self.turned(differences)
        found = Moments.none()
        for turn in range(times * widest // self.length + 1):
            found = found | ((once >> (turn * self.length)) // times)
        return found.clipped(1, widest)

    def words(self):
        """The clock as a text."""
        return f"ring {write_number(self.length)}"


def clock_of(word, length):
    """The day or the ring of a length, by its word."""
    return Day(length) if word == "day" else Ring(length)
