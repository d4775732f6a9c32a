"""Groups and closings: rounds at their starts."""

from neverrounds.errors import BadName
from neverrounds.figures import is_name
from neverrounds.rounds import Round


class Named:
    """What has a name."""

    def __init__(self, name):
        if not is_name(name):
            raise BadName(name)
        self.name = name


class Timed:
    """A round that is walked once, from a start on."""

    def __init__(self, tour, start):
        self.tour = tour
        self.start = start

    def where(self, moment):
        """The list of the rooms in which the group can be at a moment, in the order of the steps."""
        found = []
        for step, (room, _, _) in enumerate(self.tour.stays, start=1):
            if moment - self.start in self.tour.window(step) and room not in found:
                found.append(room)
        return found


class Group(Named, Timed):
    """A group with its round and its start."""

    def __init__(self, name, tour, start):
        Named.__init__(self, name)
        Timed.__init__(self, tour, start)


class Closing(Timed):
    """A room that is closed for some minutes, as if a group stood in it."""

    def __init__(self, room, start, minutes):
        Timed.__init__(self, Round([(room, minutes, minutes)]), start)
        self.room = room
        self.minutes = minutes
