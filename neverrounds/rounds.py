"""Rounds: lists of stays in rooms."""

from neverrounds.errors import BadCount, BadLag, BadName, BadStay, BadText, NoStep
from neverrounds.figures import is_name, read_span
from neverrounds.moments import Moments

HALL = "hall"


def read_stay(piece, place):
    """The stay that a piece of a text writes; its numbers are not looked at further."""
    words = piece.split(" ")
    if len(words) != 2 or words[0] == "":
        raise BadText(place)
    least, most = read_span(words[1], place)
    return words[0], least, most


class Round:
    """A list of 1 to 6 stays, each a tuple (room, least, most)."""

    MOST_STAYS = 6

    def __init__(self, stays):
        if not 1 <= len(stays) <= Round.MOST_STAYS:
            raise BadCount(len(stays))
        for step, (room, least, most) in enumerate(stays, start=1):
            if not is_name(room):
                raise BadName(room)
            if least < 1 or most < least:
                raise BadStay(step)
        self._stays = list(stays)

    @classmethod
    def read(cls, text):
        """The round that a text writes."""
        stays = [read_stay(piece, place) for place, piece in enumerate(text.split(", "), start=1)]
        return cls(stays)

    @property
    def stays(self):
        """The list of the stays."""
        return list(self._stays)

    @property
    def rooms(self):
        """The list of the rooms without the hall, in the order of the first visit."""
        found = []
        for room, _, _ in self._stays:
            if room != HALL and room not in found:
                found.append(room)
        return found

    @property
    def shortest(self):
        """The least number of minutes of the whole round."""
        return self.earliest(len(self._stays))

    @property
    def longest(self):
        """The greatest number of minutes of the whole round."""
        return self.latest(len(self._stays))

    def earliest(self, step):
        """The least number of minutes of the first stays, up to this step."""
        if not 0 <= step <= len(self._stays):
            raise NoStep(step)
        return sum([least for _, least, _ in self._stays[:step]])

    def latest(self, step):
        """The greatest number of minutes of the first stays, up to this step."""
        if not 0 <= step <= len(self._stays):
            raise NoStep(step)
        return sum([most for _, _, most in self._stays[:step]])

    def window(self, step):
        """The set of the moments at which a group that starts at 0 can be in this step."""
        if not 1 <= step <= len(self._stays):
            raise NoStep(step)
        return Moments.span(self.earliest(step - 1), self.latest(step) - 1)

    def lagging(self, extra):
        """The round in which every stay can last longer by extra minutes."""
        if extra < 0:
            raise BadLag(extra)
        return Round([(room, least, most + extra) for room, least, most in self._stays])

    def misfit(self, lengths):
        """The first step whose length is out of range, 0 if the number of lengths is wrong, None if they fit."""
        if len(lengths) != len(self._stays):
            return 0
        for step, length in enumerate(lengths, start=1):
            _, least, most = self[step]
            if not least <= length <= most:
                return step
        return None

    def allows(self, lengths):
        """Tell whether a list of lengths fits the round."""
        return self.misfit(lengths) is None

    def __call__(self, start):
        """The shadow of a group that starts at start: a dict from the rooms to sets of moments."""
        shadow = {room: Moments.none() for room in self.rooms}
        for step, (room, _, _) in enumerate(self._stays, start=1):
            if room != HALL:
                shadow[room] = shadow[room] | (self.window(step) >> start)
        return shadow

    def __getitem__(self, at):
        if not 1 <= at <= len(self._stays):
            raise NoStep(at)
        return self._stays[at - 1]

    def __len__(self):
        return len(self._stays)

    def __iter__(self):
        return iter(self._stays)

    def __eq__(self, other):
        return isinstance(other, Round) and self._stays == other._stays

    def __add__(self, other):
        return Round(self._stays + other._stays)

    def __mul__(self, other):
        count = max(0, other) * len(self._stays)
        # Asked ahead of the list itself, which can be too long to be built.
        if not 1 <= count <= Round.MOST_STAYS:
            raise BadCount(count)
        return Round(self._stays * other)

    def __rmul__(self, other):
        return self * other
