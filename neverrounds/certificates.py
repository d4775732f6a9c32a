"""Certificates: what shows that a word about two groups is right."""

from neverrounds.moments import Moments
from neverrounds.rounds import HALL
from neverrounds.stairs import first_cells, free_at_once, is_shared, moves
from neverrounds.walks import shared, walk


def is_in(steps, room, moment):
    """Tell whether a walk is in a room at a moment."""
    return any([place == room and enter <= moment < leave for place, enter, leave in steps])


def shadow_rows(first, second, apart):
    """The rows of an Alibi: the shadows of both groups in each room that both visit."""
    shadow, other = first(0), second(apart)
    return [(room, shadow[room], other[room]) for room in first.rooms if room in other]


def covers(listed, found):
    """Tell whether a dict of sets by cell contains some cells with all of their offsets."""
    return all([offsets.within(listed.get(cell, Moments.none())) for cell, offsets in found])


class Certificate:
    """What belongs to two rounds and a difference."""

    def __init__(self, first, second, apart):
        self.first = first
        self.second = second
        self.apart = apart

    def holds(self):
        """Tell whether the certificate is right."""
        return True


class Meeting(Certificate):
    """Lengths with which both groups are in a room at a moment."""

    def __init__(self, first, second, apart, first_lengths, second_lengths, room, moment):
        Certificate.__init__(self, first, second, apart)
        self.first_lengths = list(first_lengths)
        self.second_lengths = list(second_lengths)
        self.room = room
        self.moment = moment

    @property
    def lag(self):
        """The lag of the lengths, if they fit."""
        return sum(self.first_lengths) - self.first.shortest + sum(self.second_lengths) - self.second.shortest

    def holds(self):
        """Tell whether the lengths fit and both groups are in the room at the moment."""
        if not self.first.allows(self.first_lengths) or not self.second.allows(self.second_lengths):
            return False
        one = walk(self.first, 0, self.first_lengths)
        other = walk(self.second, self.apart, self.second_lengths)
        return self.room != HALL and is_in(one, self.room, self.moment) and is_in(other, self.room, self.moment)


class Alibi(Certificate):
    """The shadows of both groups in each common room, which have no moment in common."""

    def __init__(self, first, second, apart, rows):
        Certificate.__init__(self, first, second, apart)
        self.rows = list(rows)

    def holds(self):
        """Tell whether the rows are those of the shadows, and these have no moment in common."""
        rows = shadow_rows(self.first, self.second, self.apart)
        return self.rows == rows and all([len(one & other) == 0 for _, one, other in rows])


class Avoidance(Certificate):
    """Lengths with which the groups share no room."""

    def __init__(self, first, second, apart, first_lengths, second_lengths):
        Certificate.__init__(self, first, second, apart)
        self.first_lengths = list(first_lengths)
        self.second_lengths = list(second_lengths)

    def holds(self):
        """Tell whether the lengths fit and the groups share no room."""
        if not self.first.allows(self.first_lengths) or not self.second.allows(self.second_lengths):
            return False
        one = walk(self.first, 0, self.first_lengths)
        other = walk(self.second, self.apart, self.second_lengths)
        return shared(one, other) is None


class Trap(Certificate):
    """Cells with offsets that the groups cannot leave without sharing a room."""

    def __init__(self, first, second, apart, cells):
        Certificate.__init__(self, first, second, apart)
        self.cells = list(cells)

    def holds(self):
        """Tell whether the cells are in order, begin with the first common ones, and no move leads out of them."""
        if not self.is_in_order() or free_at_once(self.first, self.second, self.apart):
            return False
        listed = {(i, j): offsets for i, j, offsets in self.cells}
        starts = first_cells(self.first, self.second, self.apart)
        return covers(listed, list(starts.items())) and self.is_closed(listed)

    def is_in_order(self):
        """Tell whether all cells are cells of the rounds, in ascending order, with offsets in their range."""
        cells = [(i, j) for i, j, _ in self.cells]
        return cells == sorted(set(cells)) and all([self.is_cell(i, j, offsets) for i, j, offsets in self.cells])

    def is_cell(self, i, j, offsets):
        """Tell whether the rounds have this cell and all offsets lie in its range."""
        if not 1 <= i <= len(self.first) or not 1 <= j <= len(self.second):
            return False
        return offsets.within(Moments.span(1 - self.second[j][2], self.first[i][2] - 1))

    def is_closed(self, listed):
        """Tell whether every move from the listed cells leads to a listed cell and offset, so none makes free."""
        for cell, offsets in listed.items():
            if not is_shared(self.first, self.second, cell):
                if not covers(listed, moves(self.first, self.second, cell, offsets)):
                    return False
        return True
