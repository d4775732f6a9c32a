"""The staircase: how two groups go from cell to cell while both are on their rounds."""

from neverrounds.moments import Moments
from neverrounds.rounds import HALL


def cells(first, second):
    """The list of all cells, in ascending order."""
    return [(i, j) for i in range(1, len(first) + 1) for j in range(1, len(second) + 1)]


def is_shared(first, second, cell):
    """Tell whether both steps of a cell are in the same room, and this is not the hall."""
    i, j = cell
    room = first[i][0]
    return room != HALL and room == second[j][0]


def escape_sets(first, second):
    """The escape set of each cell: the offsets from which some moves make the groups free."""
    found = {}
    for i, j in cells(first, second)[::-1]:
        found[i, j] = escape_set(first, second, (i, j), found)
    return {cell: found[cell] for cell in cells(first, second)}


def escape_set(first, second, cell, later):
    """The escape set of one cell, from those of the cells to which its moves lead."""
    if is_shared(first, second, cell):
        return Moments.none()
    i, j = cell
    _, a, b = first[i]
    _, p, q = second[j]
    after_first = Moments.span(1 - q, -1)
    if i < len(first):
        after_first = after_first & later[i + 1, j]
    after_second = Moments.span(1, b - 1)
    if j < len(second):
        after_second = after_second & later[i, j + 1]
    escapes = (after_first + Moments.span(a, b)) | (after_second - Moments.span(p, q))
    if i == len(first) or j == len(second) or 0 in later[i + 1, j + 1]:
        escapes = escapes | Moments.span(a - q, b - p)
    return escapes


def first_cells(first, second, apart):
    """The offsets with which the groups come into their first common cell, by cell; some sets may be empty."""
    if apart >= 0:
        return {(i, 1): late_offsets(first, i, apart) for i in range(1, len(first) + 1)}
    return {(1, j): -late_offsets(second, j, -apart) for j in range(1, len(second) + 1)}


def late_offsets(tour, step, moment):
    """The numbers of minutes that a group that started at 0 can have been in a step at a moment."""
    moments = Moments.span(moment - tour.latest(step - 1), moment - tour.earliest(step - 1))
    return moments.clipped(0, tour[step][2] - 1)


def moves(first, second, cell, offsets):
    """The cells to which the moves from some offsets of a cell that is not shared lead, with the new offsets."""
    i, j = cell
    _, a, b = first[i]
    _, p, q = second[j]
    both = Moments.none()
    if len(offsets.clipped(a - q, b - p)) > 0:
        both = Moments.span(0, 0)
    first_leaves = (offsets - Moments.span(a, b)).clipped(1 - q, -1)
    second_leaves = (offsets + Moments.span(p, q)).clipped(1, b - 1)
    return [((i + 1, j), first_leaves), ((i, j + 1), second_leaves), ((i + 1, j + 1), both)]


def all_reached(first, second, apart):
    """The offsets with which the groups can come into each cell, also beyond the last steps, where they are free."""
    reached = first_cells(first, second, apart)
    for cell in cells(first, second):
        if cell in reached and not is_shared(first, second, cell):
            found = moves(first, second, cell, reached[cell])
            for target, offsets in found:
                reached[target] = reached.get(target, Moments.none()) | offsets
    return reached


def reach_sets(first, second, apart):
    """The offsets with which the groups can be in a cell, for each cell in which they can be."""
    reached = all_reached(first, second, apart)
    return {cell: reached[cell] for cell in cells(first, second) if cell in reached and len(reached[cell]) > 0}


def free_at_once(first, second, apart):
    """Tell whether one group can be home before the other one starts."""
    return apart >= first.shortest or -apart >= second.shortest


def can_avoid(first, second, apart):
    """Tell whether some lengths let the groups share no room."""
    if free_at_once(first, second, apart):
        return True
    escapes = escape_sets(first, second)
    starts = first_cells(first, second, apart)
    return any([len(starts[cell] & escapes[cell]) > 0 for cell in list(starts)])


def surely_meet(first, second):
    """The set of all differences at which the groups share a room whatever the lengths are."""
    escapes = escape_sets(first, second)
    avoided = Moments.none()
    for i in range(1, len(first) + 1):
        late = escapes[i, 1].clipped(0, first[i][2] - 1)
        avoided = avoided | (late + Moments.span(first.earliest(i - 1), first.latest(i - 1)))
    for j in range(1, len(second) + 1):
        late = escapes[1, j].clipped(1 - second[j][2], 0)
        avoided = avoided | (late - Moments.span(second.earliest(j - 1), second.latest(j - 1)))
    return avoided.outside(1 - second.shortest, first.shortest - 1)
