"""What the tests count out one by one, without the program."""

from itertools import product


def members(moments):
    """The integers of a set of moments, as a plain set."""
    return {x for low, high in moments.spans for x in range(low, high + 1)}


def spans_of(numbers):
    """The spans that a plain set of integers must have."""
    spans = []
    for number in sorted(numbers):
        if spans and spans[-1][1] == number - 1:
            spans[-1] = (spans[-1][0], number)
        else:
            spans.append((number, number))
    return spans


def subsets(numbers):
    """All plain sets of some of the numbers."""
    numbers = list(numbers)
    return [{x for x, taken in zip(numbers, word) if taken} for word in product((False, True), repeat=len(numbers))]


def all_lengths(stays):
    """Every list of lengths that fits some stays."""
    return [list(lengths) for lengths in product(*[range(least, most + 1) for _, least, most in stays])]


def steps_of(stays, start, lengths):
    """The steps (room, enter, leave) of a group."""
    steps = []
    for (room, _, _), length in zip(stays, lengths):
        steps.append((room, start, start + length))
        start += length
    return steps


def all_steps(stays, start):
    """The steps of a group for every list of lengths."""
    return [steps_of(stays, start, lengths) for lengths in all_lengths(stays)]


def places(steps):
    """Every pair (moment, room) of a group in a room that is not the hall."""
    return {(moment, room) for room, enter, leave in steps for moment in range(enter, leave) if room != "hall"}


def meeting_differences(one, other):
    """Every difference at which two groups with fixed lengths, given from the start 0, share a room."""
    return {x - y for x, room in places(one) for y, place in places(other) if room == place}


def counted_words(first, second):
    """The differences at which the groups can meet, and those at which they surely meet."""
    found = [meeting_differences(one, other) for one in all_steps(first, 0) for other in all_steps(second, 0)]
    return set.union(*found), set.intersection(*found)


def common_cells(one, other):
    """The cells (i, j, offset) of two groups in their order, up to the first shared one."""
    found = []
    for i, (room, enter, leave) in enumerate(one, start=1):
        for j, (place, come, gone) in enumerate(other, start=1):
            if max(enter, come) < min(leave, gone):
                found.append((i, j, come - enter))
                if room == place and room != "hall":
                    return found
    return found


def counted_reach(first, second, apart):
    """The offsets of each cell in which the groups can be, as a dict of plain sets."""
    found = {}
    for one in all_steps(first, 0):
        for other in all_steps(second, apart):
            for i, j, offset in common_cells(one, other):
                found.setdefault((i, j), set()).add(offset)
    return found


def counted_escapes(first, second):
    """The offsets of each cell from which the groups can become free, as a dict of plain sets."""
    found = {}
    for i, (_, _, most) in enumerate(first, start=1):
        for j, (_, _, longest) in enumerate(second, start=1):
            found[i, j] = {offset for offset in range(1 - longest, most)
                           if can_escape(first[i - 1:], second[j - 1:], offset)}
    return found


def can_escape(first, second, offset):
    """Tell whether two groups that are in their first steps at once can go on without sharing a room."""
    for one in all_steps(first, 0):
        for other in all_steps(second, offset):
            together = max(one[0][1], other[0][1]) < min(one[0][2], other[0][2])
            if together and not places(one) & places(other):
                return True
    return False


def counted_starts(first, second, apart):
    """The first common cells with their offsets, as a plain set of (i, j, offset); None if there may be none."""
    found = set()
    for one in all_steps(first, 0):
        for other in all_steps(second, apart):
            common = [(i, j, come - enter) for i, (_, enter, leave) in enumerate(one, start=1)
                      for j, (_, come, gone) in enumerate(other, start=1) if max(enter, come) < min(leave, gone)]
            if not common:
                return None
            found.add(common[0])
    return found


def counted_moves(first, second, i, j, offset):
    """The cells and offsets to which the moves from an offset of a cell lead, as a plain set of (i, j, offset)."""
    _, a, b = first[i - 1]
    _, p, q = second[j - 1]
    found = set()
    for t in range(a, b + 1):
        if 1 - q <= offset - t <= -1:
            found.add((i + 1, j, offset - t))
        for u in range(p, q + 1):
            if 1 <= offset + u <= b - 1:
                found.add((i, j + 1, offset + u))
            if offset == t - u:
                found.add((i + 1, j + 1, 0))
    return found


def counted_trap(first, second, apart, cells):
    """Tell whether the cells of a Trap are right, looking at every offset and every move."""
    keys = [(i, j) for i, j, _ in cells]
    starts = counted_starts(first, second, apart)
    if starts is None or any(left >= right for left, right in zip(keys, keys[1:])):
        return False
    if not all(1 <= i <= len(first) and 1 <= j <= len(second) for i, j in keys):
        return False
    listed = {(i, j, offset) for i, j, offsets in cells for offset in members(offsets)}
    reached = set(starts)
    for i, j, offset in listed:
        if not 1 - second[j - 1][2] <= offset <= first[i - 1][2] - 1:
            return False
        if not first[i - 1][0] == second[j - 1][0] != "hall":
            reached |= counted_moves(first, second, i, j, offset)
    return reached <= listed


def counted_run(groups, lengths):
    """The walks of the waiting house, minute by minute: lists of tuples (room, come, enter, leave)."""
    walks = [[] for _ in groups]
    queues = {}
    now = min((start for _, _, start in groups), default=0)
    while any(len(steps) < len(stays) or steps[-1][3] is None or steps[-1][3] > now
              for steps, (_, stays, _) in zip(walks, groups)):
        for place, (_, stays, start) in enumerate(groups):
            steps = walks[place]
            coming = now == start if not steps else now == steps[-1][3]
            if coming and len(steps) < len(stays):
                steps.append([stays[len(steps)][0], now, None, None])
                queues.setdefault(steps[-1][0], []).append(place)
        for room, queue in queues.items():
            while queue and (room == "hall" or not is_taken(walks, room, now)):
                place = queue.pop(0)
                walks[place][-1][2:] = [now, now + lengths[place][len(walks[place]) - 1]]
        now += 1
    return [[tuple(step) for step in steps] for steps in walks]


def is_taken(walks, room, now):
    """Tell whether some group is in a room at a moment."""
    return any(place == room and enter is not None and enter <= now < leave
               for steps in walks for place, _, enter, leave in steps)


def counted_waits(groups, walks):
    """The waits (name, step, room, come, enter) of some walks, by the moment at which they begin, then by the group."""
    found = [(come, place, (name, step, room, come, enter)) for place, (name, _, _) in enumerate(groups)
             for step, (room, come, enter, _) in enumerate(walks[place], start=1) if come < enter]
    return [row for _, _, row in sorted(found, key=lambda row: row[:2])]


# Small rounds of many shapes, so that all pairs of them can be counted out.
TOURS = [
    [("a", 1, 1)],
    [("a", 2, 5)],
    [("b", 3, 4)],
    [("hall", 1, 3)],
    [("a", 2, 3), ("b", 1, 3)],
    [("b", 1, 2), ("a", 3, 5)],
    [("a", 3, 3), ("a", 1, 2)],
    [("c", 10, 12), ("a", 5, 8)],
    [("a", 1, 4), ("hall", 2, 2), ("a", 2, 2)],
    [("b", 2, 2), ("hall", 1, 4), ("b", 1, 1)],
    [("a", 1, 2), ("b", 2, 2), ("c", 1, 3)],
    [("c", 2, 4), ("b", 1, 1), ("a", 1, 2)],
    [("hall", 1, 2), ("a", 1, 1), ("b", 2, 3), ("a", 1, 2)],
    [("a", 1, 2), ("c", 4, 4), ("b", 1, 2), ("hall", 1, 1), ("a", 2, 3)],
]
