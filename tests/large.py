"""Rounds with numbers of more than fifty digits, and the differences at which they are asked about."""

from neverrounds.meets import may_meet
from neverrounds.rounds import Round
from neverrounds.stairs import surely_meet

HUGE = 10 ** 54 + 98765432109876543210
LONG = Round([("a", HUGE, 2 * HUGE), ("b", 1, HUGE), ("a", 5, 5), ("hall", 1, 1), ("c", HUGE, HUGE), ("a", 7, 9)])
OTHER = Round([("hall", 3, 3), ("c", 1, 2), ("a", HUGE, HUGE + 1), ("b", HUGE, 3 * HUGE), ("a", 1, 1), ("b", 2, 2)])
STEEP = Round([("a", 7 * HUGE, 8 * HUGE), ("b", 9 * HUGE, 9 * HUGE + 5), ("c", 3 * HUGE, 9 * HUGE),
               ("a", 8 * HUGE, 9 * HUGE), ("d", 1, 2), ("b", 5 * HUGE, 5 * HUGE)])
NARROW = Round([("d", 3 * HUGE, 3 * HUGE + 1), ("c", 2 * HUGE, 2 * HUGE), ("b", 5 * HUGE, 6 * HUGE),
                ("hall", 1, HUGE), ("a", 4 * HUGE, 4 * HUGE), ("b", 9, 9)])
APART = Round([("e", HUGE, 2 * HUGE), ("hall", 1, HUGE), ("f", 1, 1)])
LARGE = [(LONG, OTHER), (OTHER, LONG), (LONG, LONG), (STEEP, LONG), (STEEP, STEEP), (OTHER, STEEP), (NARROW, STEEP),
         (STEEP, NARROW), (NARROW, NARROW), (LONG, APART), (APART, APART), (NARROW, OTHER)]


def around(first, second):
    """The differences at, next to and between the ends of the spans at which the word changes, and far off."""
    sets = [may_meet(first, second), surely_meet(first, second)]
    ends = sorted([0] + [end for moments in sets for span in moments for end in span])
    between = [(left + right) // 2 for left, right in zip(ends, ends[1:])]
    far = 10 ** 59
    return sorted({end + step for end in ends + between for step in (-1, 0, 1)} | {far, -far, HUGE, -HUGE})
