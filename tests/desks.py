"""A desk kept as a plain list of states, without the program; what can meet is counted out."""

from functools import lru_cache

from counting import counted_words

LETTERS = "abcdefghijklmnopqrstuvwxyz"
NAME_SIGNS = LETTERS + "0123456789"


class Wrong(Exception):
    """An error of the plain desk: the name of the error class of the program, and its argument if it has one."""

    def __init__(self, *told):
        Exception.__init__(self, *told)
        self.told = list(told)


@lru_cache(maxsize=None)
def met(one, other):
    """The differences at which two tuples of stays can meet."""
    return counted_words(one, other)[0]


def is_plain_name(text):
    return 1 <= len(text) <= 12 and text[0] in LETTERS and all(sign in NAME_SIGNS for sign in text)


class PlainDesk:
    """The word of the clock, its length, and the states (closings, groups, limit) before and behind each deed."""

    def __init__(self, word, length, closings=(), limit=8):
        self.word, self.length = word, length
        self.states = [([], [], 8)]
        self.now = 0
        self.change_limit(limit)
        for closing in closings:
            self.close(*closing)
        self.settle()

    @property
    def state(self):
        return self.states[self.now]

    def settle(self):
        self.states, self.now = [self.state], 0

    def deed(self, closings, groups, limit):
        self.states = self.states[:self.now + 1] + [(closings, groups, limit)]
        self.now += 1

    def undo(self):
        if self.now == 0:
            raise Wrong("NothingToUndo")
        self.now -= 1

    def redo(self):
        if self.now + 1 == len(self.states):
            raise Wrong("NothingToRedo")
        self.now += 1

    def placed(self, start):
        return start - start // self.length * self.length if self.word == "ring" else start

    def can_meet(self, one, start, other, later):
        differences = met(tuple(one), tuple(other))
        if self.word == "ring":
            return any((later - start - difference) % self.length == 0 for difference in differences)
        return later - start in differences

    def fits(self, stays, start):
        if any(most > self.length for _, _, most in stays):
            return False
        if self.word == "day":
            return start >= 0 and start + sum(most for _, _, most in stays) <= self.length
        copies = [difference for difference in met(tuple(stays), tuple(stays)) if difference % self.length == 0]
        return self.word != "ring" or all(difference == 0 for difference in copies)

    def look(self, stays, start, but=None):
        closings, groups, _ = self.state
        if not self.fits(stays, start):
            raise Wrong("NotFitting")
        for place, (room, begin, minutes) in enumerate(closings, start=1):
            if self.can_meet(stays, start, [(room, minutes, minutes)], begin):
                raise Wrong("Closed", place)
        for name, others, begin in groups:
            if name != but and self.can_meet(stays, start, others, begin):
                raise Wrong("Clash", name)

    def close(self, room, start, minutes):
        closings, groups, limit = self.state
        if not is_plain_name(room) or room == "hall":
            raise Wrong("BadName", room)
        if minutes < 1:
            raise Wrong("BadStay", 1)
        if len(closings) == 6:
            raise Wrong("Full", 6)
        self.look([(room, minutes, minutes)], start)
        self.deed(closings + [(room, self.placed(start), minutes)], groups, limit)

    def book(self, name, stays, start):
        closings, groups, limit = self.state
        if not is_plain_name(name):
            raise Wrong("BadName", name)
        if name in [booked for booked, _, _ in groups]:
            raise Wrong("NameTaken", name)
        if len(groups) >= limit:
            raise Wrong("Full", limit)
        self.look(stays, start)
        self.deed(closings, groups + [(name, stays, self.placed(start))], limit)

    def book_all(self, rows):
        states, now = self.states, self.now
        try:
            for row in rows:
                self.book(*row)
        except Wrong:
            self.states, self.now = states, now
            raise
        if rows:
            last = self.state
            self.states, self.now = states, now
            self.deed(*last)

    def find(self, name):
        for booked, stays, start in self.state[1]:
            if booked == name:
                return stays, start
        raise Wrong("UnknownGroup", name)

    def cancel(self, name):
        closings, groups, limit = self.state
        self.find(name)
        self.deed(closings, [row for row in groups if row[0] != name], limit)

    def move(self, name, start):
        closings, groups, limit = self.state
        moved, _ = self.find(name)
        self.look(moved, start, but=name)
        rows = [(booked, stays, self.placed(start) if booked == name else begin) for booked, stays, begin in groups]
        self.deed(closings, rows, limit)

    def change_limit(self, limit):
        closings, groups, _ = self.state
        if not 1 <= limit <= 8:
            raise Wrong("BadLimit", limit)
        if limit < len(groups):
            raise Wrong("TooFew", len(groups))
        self.deed(closings, groups, limit)

    def safe_starts(self, stays):
        """The safe starts as a plain set."""
        return {start for start in range(self.length) if self.is_safe(stays, start)}

    def is_safe(self, stays, start):
        try:
            self.look(stays, start)
        except Wrong:
            return False
        return True
