"""The desk: closings and booked groups that can never share a room, and the deeds that change them."""

from neverrounds.errors import NothingToRedo, NothingToUndo
from neverrounds.placing import Group
from neverrounds.plans import MOST_LIMIT, Plan, find_group


class Desk:
    """A desk on a clock, with its closings and its booked groups."""

    def __init__(self, clock, *closings, limit=MOST_LIMIT):
        plan = Plan(clock, [], [], MOST_LIMIT).with_limit(limit)
        for room, start, minutes in closings:
            plan = plan.with_closing(room, start, minutes)
        self.clock = clock
        self._plan = plan
        # The plans before each deed, and those that undo has taken back.
        self._past = []
        self._future = []

    def keep(self, plan):
        """Make a plan the one of the desk, as a deed."""
        self._past.append(self._plan)
        self._future.clear()
        self._plan = plan

    def settle(self):
        """Forget all deeds, so that none can be taken back or done again."""
        self._past.clear()
        self._future.clear()

    def undo(self):
        """Take back the last deed."""
        if len(self._past) == 0:
            raise NothingToUndo()
        self._future.append(self._plan)
        self._plan = self._past.pop()

    def redo(self):
        """Do again the deed that was taken back last."""
        if len(self._future) == 0:
            raise NothingToRedo()
        self._past.append(self._plan)
        self._plan = self._future.pop()

    def close(self, room, start, minutes):
        """Close a room for some minutes."""
        self.keep(self._plan.with_closing(room, start, minutes))

    def book(self, name, tour, start):
        """Book a group."""
        self.keep(self._plan.with_group(name, tour, start))

    def book_all(self, rows):
        """Book a list of groups (name, tour, start) as one deed, all of them or none."""
        plan = self._plan
        for name, tour, start in rows:
            plan = plan.with_group(name, tour, start)
        if len(rows) > 0:
            self.keep(plan)

    def cancel(self, name):
        """Remove a group."""
        self.keep(self._plan.without_group(name))

    def move(self, name, start):
        """Give a group another start."""
        self.keep(self._plan.with_start(name, start))

    def change_limit(self, limit):
        """Change the greatest number of groups."""
        self.keep(self._plan.with_limit(limit))

    @property
    def limit(self):
        """The greatest number of groups."""
        return self._plan.most

    @limit.setter
    def limit(self, value):
        self.change_limit(value)

    def groups(self):
        """The list of the groups as tuples (name, tour, start), in the order of booking."""
        return [(group.name, group.tour, group.start) for group in self._plan.booked]

    def closings(self):
        """The list of the closings as tuples (room, start, minutes)."""
        return [(closing.room, closing.start, closing.minutes) for closing in self._plan.closed]

    def group(self, name):
        """A booked group."""
        found = find_group(self._plan.booked, name)
        return Group(name, found.tour, found.start)

    def safe_starts(self, tour):
        """The set of the starts below the length of the clock at which one more group with this round is free."""
        return self._plan.safe_starts(tour)

    def run(self, lengths):
        """The Run of the closings and of each group once, with a dict of the lengths by name."""
        return self._plan.run_once(lengths)

    def __getitem__(self, at):
        return find_group(self._plan.booked, at).start

    def __setitem__(self, at, worth):
        self.move(at, worth)

    def __contains__(self, x):
        return x in self._plan.names

    def __len__(self):
        return len(self._plan.names)

    def __iter__(self):
        return iter(self._plan.names)
