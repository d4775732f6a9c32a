"""Plans: what a desk keeps at a time."""

from neverrounds.errors import BadLimit, BadName, Clash, Closed, Full, NameTaken, NotFitting, TooFew, UnknownGroup
from neverrounds.house import run
from neverrounds.meets import may_meet
from neverrounds.moments import Moments
from neverrounds.placing import Closing, Group
from neverrounds.rounds import HALL

MOST_CLOSINGS = 6
MOST_LIMIT = 8


def find_group(groups, name):
    """The group of this name."""
    for group in groups:
        if group.name == name:
            return group
    raise UnknownGroup(name)


class Plan:
    """Closings and booked groups on a clock that can never share a room; a plan never changes."""

    def __init__(self, clock, closed, booked, most):
        self.clock = clock
        self.closed = list(closed)
        self.booked = list(booked)
        self.names = [group.name for group in booked]
        self.most = most

    def can_share(self, timed, other):
        """Tell whether two groups or closings can share a room."""
        return self.clock.can_meet(timed.tour, other.tour, other.start - timed.start)

    def check_free(self, timed, groups):
        """Refuse what does not fit the clock, or can meet a closing or one of these groups."""
        if not self.clock.fits(timed.tour, timed.start):
            raise NotFitting()
        for place, closing in enumerate(self.closed, start=1):
            if self.can_share(timed, closing):
                raise Closed(place)
        for group in groups:
            if self.can_share(timed, group):
                raise Clash(group.name)

    def with_closing(self, room, start, minutes):
        """The plan with one more closing."""
        if room == HALL:
            raise BadName(room)
        closing = Closing(room, self.clock.placed(start), minutes)
        if len(self.closed) >= MOST_CLOSINGS:
            raise Full(MOST_CLOSINGS)
        self.check_free(closing, self.booked)
        return Plan(self.clock, self.closed + [closing], self.booked, self.most)

    def with_group(self, name, tour, start):
        """The plan with one more group."""
        group = Group(name, tour, self.clock.placed(start))
        if name in self.names:
            raise NameTaken(name)
        if len(self.booked) >= self.most:
            raise Full(self.most)
        self.check_free(group, self.booked)
        return Plan(self.clock, self.closed, self.booked + [group], self.most)

    def without_group(self, name):
        """The plan without a group."""
        gone = find_group(self.booked, name)
        return Plan(self.clock, self.closed, [group for group in self.booked if group.name != gone.name], self.most)

    def with_start(self, name, start):
        """The plan with another start of a group."""
        found = find_group(self.booked, name)
        moved = Group(name, found.tour, self.clock.placed(start))
        self.check_free(moved, [group for group in self.booked if group.name != name])
        booked = [moved if group.name == name else group for group in self.booked]
        return Plan(self.clock, self.closed, booked, self.most)

    def with_limit(self, limit):
        """The plan with another greatest number of groups."""
        if not 1 <= limit <= MOST_LIMIT:
            raise BadLimit(limit)
        if limit < len(self.booked):
            raise TooFew(len(self.booked))
        return Plan(self.clock, self.closed, self.booked, limit)

    def safe_starts(self, tour):
        """The set of the starts below the length of the clock at which one more group with this round is free."""
        if not self.clock.fits(tour, 0):
            return Moments.none()
        taken = Moments.none()
        for other in self.closed + self.booked:
            taken = taken | self.clock.turned(may_meet(other.tour, tour) >> other.start)
        return taken.outside(0, self.clock.last_start(tour))

    def run_once(self, lengths):
        """The Run of the closings and of each group once, with a dict of the lengths by name."""
        for name in self.names:
            if name not in lengths:
                raise UnknownGroup(name)
        closings = [("closing", closing.tour, closing.start) for closing in self.closed]
        groups = [(group.name, group.tour, group.start) for group in self.booked]
        minutes = [[closing.minutes] for closing in self.closed]
        return run(closings + groups, minutes + [lengths[name] for name in self.names])
