"""The first waits of two groups: point 27."""

import unittest

from counting import TOURS, all_lengths, counted_words, spans_of
from large import HUGE, LARGE, LONG, OTHER, around
from neverrounds.house import run
from neverrounds.meets import may_meet
from neverrounds.moments import Moments
from neverrounds.rounds import Round
from neverrounds.waits import FirstWait, first_waits

FIRST = Round([("east", 10, 12), ("west", 5, 8)])
SECOND = Round([("west", 3, 4)])


def rows(waits):
    """What some first waits tell, but for the lengths."""
    return [(wait.first_step, wait.second_step, wait.who, wait.room, wait.minutes.spans) for wait in waits]


def first_of_run(first, second, apart, one, other):
    """The first wait of a run of two groups, as (first step, second step, who, room, minutes), or None."""
    found = run([("1", first, 0), ("2", second, apart)], [one, other])
    if not found.waits:
        return None
    name, step, room, come, enter = found.waits[0]
    holders = [k for k, (_, _, begin, leave) in enumerate(found.walks[2 - int(name)], start=1) if begin <= come < leave]
    steps = [step, *holders] if name == "1" else [*holders, step]
    return (*steps, int(name), room, enter - come)


class FirstWaitsTest(unittest.TestCase):
    def test_the_example(self):
        waits = first_waits(FIRST, SECOND, 10)
        self.assertEqual([len(waits), waits[0].who, waits[0].minutes.spans, waits[1].who, waits[1].minutes.spans],
                         [2, 1, [(1, 3)], 2, [(5, 8)]])
        self.assertEqual(rows(waits), [(2, 1, 1, "west", [(1, 3)]), (2, 1, 2, "west", [(5, 8)])])

    def test_by_hand(self):
        wait = FirstWait(2, 1, 3, "a", Moments.span(1, 4), [5], [1, 2, 3])
        self.assertEqual([wait.who, wait.first_step, wait.second_step, wait.room, wait.minutes.spans],
                         [2, 1, 3, "a", [(1, 4)]])
        self.assertEqual([wait.first_lengths, wait.second_lengths], [[5], [1, 2, 3]])
        first_lengths, second_lengths = [5], [1, 2, 3]
        wait = FirstWait(2, 1, 3, "a", Moments.span(1, 4), first_lengths, second_lengths)
        first_lengths.clear()
        second_lengths.clear()
        self.assertEqual([wait.first_lengths, wait.second_lengths], [[5], [1, 2, 3]])

    def test_at_every_difference_of_the_example(self):
        early = {7: [(1, 1)], 8: [(1, 2)], 9: [(1, 3)], 10: [(1, 3)], 11: [(2, 3)]}
        late = {10: [(5, 8)], 11: [(4, 8)], 12: [(3, 8)], 13: [(2, 7)], 14: [(1, 6)], 15: [(1, 5)], 16: [(1, 4)],
                17: [(1, 3)], 18: [(1, 2)], 19: [(1, 1)]}
        for apart in range(5, 22):
            expected = [(2, 1, who, "west", spans[apart]) for who, spans in ((1, early), (2, late)) if apart in spans]
            with self.subTest(apart):
                self.assertEqual(rows(first_waits(FIRST, SECOND, apart)), expected)

    def test_both_come_at_the_same_moment(self):
        tour = Round([("a", 2, 5)])
        self.assertEqual(rows(first_waits(tour, Round([("a", 7, 9)]), 0)), [(1, 1, 2, "a", [(2, 5)])])
        self.assertEqual(rows(first_waits(Round([("a", 7, 9)]), tour, 0)), [(1, 1, 2, "a", [(7, 9)])])
        self.assertEqual(rows(first_waits(Round([("b", 3, 3)]) + tour, Round([("c", 1, 1)]) + tour, 2)),
                         [(2, 2, 2, "a", [(2, 5)])])
        self.assertEqual(rows(first_waits(Round([("b", 3, 3)]) + tour, tour, 3)), [(2, 1, 2, "a", [(2, 5)])])
        self.assertEqual(rows(first_waits(tour, Round([("b", 3, 3)]) + tour, -3)), [(1, 2, 2, "a", [(2, 5)])])

    def test_differences_of_either_sign(self):
        tour = Round([("a", 2, 5)])
        for apart, expected in ((1, [(1, 1, 2, "a", [(1, 4)])]), (4, [(1, 1, 2, "a", [(1, 1)])]), (5, []),
                                (-1, [(1, 1, 1, "a", [(1, 4)])]), (-4, [(1, 1, 1, "a", [(1, 1)])]), (-5, []),
                                (HUGE, []), (-HUGE, [])):
            self.assertEqual(rows(first_waits(tour, tour, apart)), expected)

    def test_a_room_that_is_visited_several_times(self):
        first = Round([("a", 2, 2), ("a", 3, 3), ("b", 1, 1), ("a", 4, 4)])
        second = Round([("c", 1, 8), ("a", 2, 2)])
        self.assertEqual(rows(first_waits(first, second, 0)), [
            (1, 2, 2, "a", [(1, 1)]), (2, 2, 2, "a", [(1, 3)]), (4, 2, 1, "a", [(1, 1)]), (4, 2, 2, "a", [(2, 4)])])
        self.assertEqual(rows(first_waits(second, first, 0)), [
            (2, 1, 1, "a", [(1, 1)]), (2, 2, 1, "a", [(1, 2)]), (2, 2, 2, "a", [(2, 2)]),
            (2, 4, 1, "a", [(2, 3)]), (2, 4, 2, "a", [(1, 2)])])

    def test_waits_that_can_only_begin_later(self):
        # In the plain walks both share b, too, but whoever walks so has waited for a before.
        tour = Round([("a", 3, 3), ("b", 9, 9)])
        self.assertEqual(rows(first_waits(tour, tour, 1)), [(1, 1, 2, "a", [(2, 2)])])
        self.assertEqual(rows(first_waits(tour, tour, 3)), [(2, 2, 2, "b", [(6, 6)])])

    def test_no_wait(self):
        self.assertEqual(first_waits(Round([("a", 1, 9)]), Round([("b", 1, 9)]), 0), [])
        self.assertEqual(first_waits(Round([("hall", 1, 9)]), Round([("hall", 1, 9)]), 0), [])
        self.assertEqual(first_waits(FIRST, SECOND, 6), [])
        self.assertEqual(first_waits(FIRST, SECOND, 20), [])

    def check_lengths(self, first, second, apart, waits):
        """Let each first wait happen."""
        for wait in waits:
            self.assertIs(type(wait), FirstWait)
            self.assertIs(first.allows(wait.first_lengths) and second.allows(wait.second_lengths), True)
            found = first_of_run(first, second, apart, wait.first_lengths, wait.second_lengths)
            self.assertEqual(found, (wait.first_step, wait.second_step, wait.who, wait.room, wait.minutes.highest))

    def test_against_all_runs(self):
        for first in TOURS:
            for second in TOURS:
                if len(all_lengths(first)) * len(all_lengths(second)) <= 25:
                    self.compare(first, second)

    def compare(self, first, second):
        """Compare with the runs of all pairs of lists of lengths, at every difference at which there are waits."""
        one, other = Round(first), Round(second)
        may, _ = counted_words(first, second)
        for apart in range(-other.longest - 1, one.longest + 2):
            counted = {}
            if apart in may:
                for lengths in all_lengths(first):
                    for others in all_lengths(second):
                        found = first_of_run(one, other, apart, lengths, others)
                        if found is not None:
                            counted.setdefault(found[:4], set()).add(found[4])
            waits = first_waits(one, other, apart)
            with self.subTest(first=first, second=second, apart=apart):
                self.assertEqual(rows(waits), [(*key, spans_of(counted[key])) for key in sorted(counted)])
                self.check_lengths(one, other, apart, waits)

    def test_large_numbers(self):
        for first, second in LARGE:
            may = may_meet(first, second)
            for apart in around(first, second):
                waits = first_waits(first, second, apart)
                with self.subTest(first=first.stays, second=second.stays, apart=apart):
                    self.assertIs(len(waits) > 0, apart in may)
                    keys = [(wait.first_step, wait.second_step, wait.who) for wait in waits]
                    self.assertEqual(keys, sorted(set(keys)))
                    self.check_lengths(first, second, apart, waits)
                    for wait in waits:
                        self.assertGreaterEqual(wait.minutes.lowest, 1)

    def test_large_numbers_by_hand(self):
        first = Round([("a", HUGE, 2 * HUGE), ("b", 5 * HUGE, 7 * HUGE)])
        second = Round([("c", HUGE, HUGE), ("b", 2 * HUGE, 3 * HUGE)])
        self.assertEqual(rows(first_waits(first, second, HUGE)), [(2, 2, 2, "b", [(4 * HUGE, 7 * HUGE)])])
        self.assertEqual(rows(first_waits(first, second, HUGE - 2)), [
            (2, 2, 1, "b", [(2 * HUGE - 2, 3 * HUGE - 1)]), (2, 2, 2, "b", [(4 * HUGE + 2, 7 * HUGE)])])

    def test_what_is_returned_is_new(self):
        stays, others = LONG.stays, OTHER.stays
        waits = first_waits(LONG, OTHER, 7)
        known = rows(waits)
        for wait in waits:
            wait.first_lengths.clear()
            wait.second_lengths.clear()
        waits.clear()
        again = first_waits(LONG, OTHER, 7)
        self.assertEqual(rows(again), known)
        self.check_lengths(LONG, OTHER, 7, again)
        self.assertEqual([LONG.stays, OTHER.stays], [stays, others])


if __name__ == "__main__":
    unittest.main()
