"""As many wishes as possible of which no two clash, with a tree that shows that no more can be chosen."""

from neverrounds.errors import BadCount, NameTaken

MOST_WISHES = 10


class Choice:
    """The places and the names of the chosen wishes, and a tree for all open ones."""

    def __init__(self, places, names, tree):
        self.places = list(places)
        self.names = list(names)
        self.tree = tree


def most_groups(clock, wishes):
    """The Choice from a list of wishes (name, tour, start) on a clock."""
    check_wishes(wishes)
    places = [place for place, (_, tour, start) in enumerate(wishes, start=1) if clock.fits(tour, start)]
    clashes = clashes_of(clock, wishes, places)
    chosen = most_places(places, clashes)
    return Choice(chosen, [wishes[place - 1][0] for place in chosen], tree_for(places, clashes))


def check_wishes(wishes):
    """Refuse too many wishes and a name that stands twice."""
    if len(wishes) > MOST_WISHES:
        raise BadCount(len(wishes))
    names = []
    for name, _, _ in wishes:
        if name in names:
            raise NameTaken(name)
        names.append(name)


def clashes_of(clock, wishes, places):
    """A dict from each of some places to the list of the others that clash with it."""
    clashes = {}
    for place in places:
        others = [other for other in places if other != place]
        clashes[place] = [other for other in others if do_clash(clock, wishes[place - 1], wishes[other - 1])]
    return clashes


def do_clash(clock, one, other):
    """Tell whether the groups of two wishes can meet on a clock."""
    _, first, start = one
    _, second, later = other
    return clock.can_meet(first, second, later - start)


def without_clashes(places, place, clashes):
    """The places without one of them and without those that clash with it."""
    return [other for other in places if other != place and other not in clashes[place]]


def most_places(places, clashes):
    """The least of the longest lists of places of which no two clash."""
    if len(places) == 0:
        return []
    with_it = [places[0]] + most_places(without_clashes(places, places[0], clashes), clashes)
    without = most_places(places[1:], clashes)
    # Of two lists of the same length the one that begins with the first place is less.
    return with_it if len(with_it) >= len(without) else without


def cover_of(places, clashes):
    """Lists that have each place once, and of which any two places in one list clash."""
    lists = []
    for place in places:
        fitting = [row for row in lists if all([other in clashes[place] for other in row])]
        if len(fitting) > 0:
            fitting[0].append(place)
        else:
            lists.append([place])
    return lists


def tree_for(places, clashes):
    """A tree for some places, whose bound is the number of places that can be chosen."""
    lists = cover_of(places, clashes)
    if len(lists) == len(most_places(places, clashes)):
        return ("cover", lists)
    place = places[0]
    with_it = tree_for(without_clashes(places, place, clashes), clashes)
    return ("split", place, tree_for(places[1:], clashes), with_it)


def tree_bound(tree):
    """The greatest number of places that the tree lets be chosen."""
    bound = 0
    parts = [(tree, 0)]
    while len(parts) > 0:
        part, chosen = parts.pop()
        if part[0] == "cover":
            bound = max(bound, chosen + len(part[1]))
        else:
            _, _, without, with_it = part
            parts = parts + [(without, chosen), (with_it, chosen + 1)]
    return bound
