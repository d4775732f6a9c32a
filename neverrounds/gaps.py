"""How closely groups that walk the same round can follow each other."""

from neverrounds.errors import BadCount, NotFitting
from neverrounds.meets import may_meet

MOST_IN_ROW = 10


class Gap:
    """The least gap that is not bad, or None, and the pieces that show that all gaps below are bad."""

    def __init__(self, gap, cover):
        self.gap = gap
        self.cover = list(cover)


def least_gap(clock, tour, count):
    """The Gap of a row of so many groups that walk the same round."""
    if not 2 <= count <= MOST_IN_ROW:
        raise BadCount(count)
    if not clock.fits(tour, 0):
        raise NotFitting()
    widest = clock.widest_gap(tour, count)
    differences = may_meet(tour, tour)
    return gap_behind([clock.bad_gaps(differences, times, widest) for times in range(1, count)], widest)


def gap_behind(bad, widest):
    """The Gap for the sets of the gaps that are bad because of 1, 2 and so on."""
    cover = []
    low = 1
    while low <= widest:
        reasons = [times for times, gaps in enumerate(bad, start=1) if low in gaps]
        if len(reasons) == 0:
            return Gap(low, cover)
        high = bad[reasons[0] - 1].free_from(low) - 1
        cover.append((low, high, reasons[0]))
        low = high + 1
    return Gap(None, cover)
