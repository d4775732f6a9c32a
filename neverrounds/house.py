"""The waiting house, in which a room holds one group."""

from neverrounds.errors import BadCount
from neverrounds.rounds import HALL
from neverrounds.walks import check_lengths

MOST_GROUPS = 14


class Run:
    """What the groups did in the waiting house: their walks and their waits."""

    def __init__(self, walks, waits):
        self.walks = list(walks)
        self.waits = list(waits)


class House:
    """The waiting house while it runs; a group is known by its position in the list, from 0 on."""

    def __init__(self, tours, starts, lengths):
        self.tours = list(tours)
        self.lengths = list(lengths)
        self.walks = [[] for _ in tours]
        # The moment at which a group comes to its next room or home, None while it waits or is home.
        self.due = list(starts)
        self.holders = {}
        self.queues = {}

    def moments(self):
        """The list of the moments at which something is due."""
        return [moment for moment in self.due if moment is not None]

    def pass_moment(self, now):
        """Let all happen that happens at this moment."""
        moving = [group for group, moment in enumerate(self.due) if moment == now]
        for group in moving:
            self.leave(group)
        for group in moving:
            self.come(group, now)
        for room in list(self.queues):
            self.let_in(room, now)

    def leave(self, group):
        """Take a group out of the room that it is in, if it is in one; nobody keeps the hall from others."""
        if len(self.walks[group]) > 0:
            room, _, _, _ = self.walks[group][-1]
            if room != HALL:
                del self.holders[room]

    def come(self, group, now):
        """Let a group join the queue of its next room, if it has one."""
        self.due[group] = None
        done = len(self.walks[group])
        if done == len(self.tours[group]):
            return
        room, _, _ = self.tours[group][done + 1]
        if room == HALL:
            self.enter(group, room, now, now)
        else:
            self.queues.setdefault(room, []).append((group, now))

    def let_in(self, room, now):
        """Let the first group of a queue enter, if the room is empty."""
        if room not in self.holders and len(self.queues[room]) > 0:
            group, come = self.queues[room].pop(0)
            self.holders[room] = group
            self.enter(group, room, come, now)

    def enter(self, group, room, come, now):
        """Begin the next stay of a group."""
        leave = now + self.lengths[group][len(self.walks[group])]
        self.walks[group].append((room, come, now, leave))
        self.due[group] = leave


def waits_of(names, walks):
    """All waits (name, step, room, come, enter), by the moment at which they begin, then by the group."""
    found = []
    for place, name in enumerate(names):
        for step, (room, come, enter, _) in enumerate(walks[place], start=1):
            if come < enter:
                found.append((come, place, (name, step, room, come, enter)))
    return [wait for _, _, wait in sorted(found)]


def run(groups, lengths):
    """The Run of some groups (name, tour, start), with a list of lengths for each."""
    if len(groups) > MOST_GROUPS:
        raise BadCount(len(groups))
    if len(lengths) != len(groups):
        raise BadCount(len(lengths))
    for (_, tour, _), row in zip(groups, lengths):
        check_lengths(tour, row)
    house = House([tour for _, tour, _ in groups], [start for _, _, start in groups], lengths)
    while len(house.moments()) > 0:
        house.pass_moment(min(house.moments()))
    return Run(house.walks, waits_of([name for name, _, _ in groups], house.walks))
