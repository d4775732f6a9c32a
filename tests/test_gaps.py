"""Gaps in a row of groups: point 31."""

import unittest

from counting import TOURS, counted_words
from neverrounds.clocks import Clock, Day, Ring
from neverrounds.errors import BadCount, NotFitting
from neverrounds.gaps import Gap, least_gap
from neverrounds.rounds import Round

HUGE = 10 ** 54 + 98765432109876543210
BACK = Round([("east", 2, 2), ("hall", 5, 5), ("east", 1, 1)])


class GapTest(unittest.TestCase):
    def check(self, clock, tour, count, gap, cover):
        found = least_gap(clock, tour, count)
        with self.subTest(clock=clock.words(), tour=tour.stays, count=count):
            self.assertIs(type(found), Gap)
            self.assertEqual(found.gap, gap)
            self.assertEqual(found.cover, cover)
            self.assertIs(type(found.cover), list)

    def test_by_hand(self):
        cover = [(1, 2, 1)]
        found = Gap(3, cover)
        cover.clear()
        self.assertEqual([found.gap, found.cover], [3, [(1, 2, 1)]])
        self.assertEqual([Gap(None, []).gap, Gap(None, []).cover], [None, []])

    def test_the_example(self):
        self.check(Clock(100), BACK, 4, 4, [(1, 1, 1), (2, 2, 3), (3, 3, 2)])

    def test_each_count(self):
        # Two groups meet at the differences up to 1, and from 6 to 7.
        self.check(Clock(100), BACK, 2, 2, [(1, 1, 1)])
        self.check(Clock(100), BACK, 3, 2, [(1, 1, 1)])
        self.check(Clock(100), BACK, 5, 4, [(1, 1, 1), (2, 2, 3), (3, 3, 2)])
        self.check(Clock(100), BACK, 10, 4, [(1, 1, 1), (2, 2, 3), (3, 3, 2)])

    def test_the_clock(self):
        self.check(Clock(5), Round([("a", 3, 5)]), 2, 5, [(1, 4, 1)])
        self.check(Clock(5), Round([("a", 3, 5)]), 10, 5, [(1, 4, 1)])
        self.check(Clock(5), Round([("a", 1, 1)]), 10, 1, [])
        self.check(Clock(5), Round([("hall", 1, 5)]), 10, 1, [])
        self.check(Clock(5), Round([("a", 5, 5), ("a", 5, 5)]), 2, 10, [(1, 9, 1)])

    def test_the_day(self):
        tour = Round([("a", 5, 5)])
        self.check(Day(5), tour, 2, None, [])
        self.check(Day(6), tour, 3, None, [])
        self.check(Day(7), tour, 3, None, [(1, 1, 1)])
        self.check(Day(9), tour, 2, None, [(1, 4, 1)])
        self.check(Day(10), tour, 2, 5, [(1, 4, 1)])
        self.check(Day(50), tour, 10, 5, [(1, 4, 1)])
        self.check(Day(49), tour, 10, None, [(1, 4, 1)])
        self.check(Day(8), Round([("hall", 7, 8)]), 2, None, [])
        self.check(Day(9), Round([("hall", 7, 8)]), 2, 1, [])
        self.check(Day(16), BACK, 4, None, [(1, 1, 1), (2, 2, 3)])
        self.check(Day(17), BACK, 4, None, [(1, 1, 1), (2, 2, 3), (3, 3, 2)])
        self.check(Day(20), BACK, 4, 4, [(1, 1, 1), (2, 2, 3), (3, 3, 2)])

    def test_the_ring(self):
        tour = Round([("a", 5, 5)])
        self.check(Ring(10), tour, 2, 5, [(1, 4, 1)])
        # At 5 the third group is 10 apart from the first one, which is once around.
        self.check(Ring(10), tour, 3, None, [(1, 4, 1), (5, 10, 2)])
        self.check(Ring(9), tour, 2, None, [(1, 9, 1)])
        self.check(Ring(5), tour, 2, None, [(1, 5, 1)])
        self.check(Ring(14), tour, 3, None, [(1, 4, 1), (5, 9, 2), (10, 14, 1)])
        self.check(Ring(15), tour, 3, 5, [(1, 4, 1)])
        self.check(Ring(50), tour, 10, 5, [(1, 4, 1)])
        self.check(Ring(7), Round([("hall", 7, 7)]), 10, 1, [])

    def test_pieces_that_end_because_another_pair_meets(self):
        # The neighbours do not meet at 3 and 4, but the third group comes once around to the first one.
        self.check(Ring(7), Round([("a", 3, 3)]), 3, None, [(1, 2, 1), (3, 4, 2), (5, 7, 1)])
        # At 2 the first and the fourth group are 6 apart, at 3 the first and the third one.
        self.check(Clock(100), BACK, 4, 4, [(1, 1, 1), (2, 2, 3), (3, 3, 2)])
        self.check(Ring(20), BACK, 4, 4, [(1, 1, 1), (2, 2, 3), (3, 3, 2)])

    def test_pieces_that_end_at_the_widest_gap(self):
        tour = Round([("a", 5, 5)])
        for length, widest in ((6, 1), (7, 2), (8, 3), (9, 4)):
            self.check(Day(length), tour, 2, None, [(1, widest, 1)])
        for length in (5, 6, 7, 8, 9):
            self.check(Ring(length), tour, 2, None, [(1, length, 1)])

    def test_large_numbers(self):
        tour = Round([("a", 1, HUGE)])
        for count in (2, 3, 10):
            self.check(Clock(HUGE), tour, count, HUGE, [(1, HUGE - 1, 1)])
            self.check(Day(10 * HUGE), tour, count, HUGE, [(1, HUGE - 1, 1)])
            self.check(Ring(10 * HUGE), tour, count, HUGE, [(1, HUGE - 1, 1)])
        self.check(Day(10 * HUGE - 1), tour, 10, None, [(1, HUGE - 1, 1)])
        self.check(Ring(2 * HUGE - 1), tour, 2, None, [(1, 2 * HUGE - 1, 1)])
        tour = Round([("east", 2 * HUGE, 2 * HUGE), ("hall", 5 * HUGE, 5 * HUGE), ("east", HUGE, HUGE)])
        # Two groups can meet up to 2 * HUGE - 1, and from 5 * HUGE + 1 to 8 * HUGE - 1.
        third, half = 8 * HUGE // 3, 4 * HUGE
        self.check(Clock(9 * HUGE), tour, 4, half,
                   [(1, 2 * HUGE - 1, 1), (2 * HUGE, third, 3), (third + 1, half - 1, 2)])
        self.check(Clock(9 * HUGE), tour, 2, 2 * HUGE, [(1, 2 * HUGE - 1, 1)])

    def test_what_is_returned_is_new(self):
        stays = BACK.stays
        least_gap(Clock(100), BACK, 4).cover.clear()
        self.check(Clock(100), BACK, 4, 4, [(1, 1, 1), (2, 2, 3), (3, 3, 2)])
        self.assertEqual(BACK.stays, stays)

    def test_against_all_gaps(self):
        for stays in TOURS:
            tour = Round(stays)
            may, _ = counted_words(stays, stays)
            for count in (2, 3, 4, 7, 10):
                self.compare(Clock(12), tour, count, tour.longest, lambda apart: apart in may)
                for spare in (0, 1, 2, 5, 9, 14, 23, 40):
                    length = tour.longest + spare
                    self.compare(Day(length), tour, count, spare // (count - 1), lambda apart: apart in may)
                for length in range(1, 33):
                    turned = {apart % length for apart in may}
                    self.compare(Ring(length), tour, count, length, lambda apart: apart % length in turned)

    def compare(self, clock, tour, count, widest, can_meet):
        """Compare with all gaps up to the widest one."""
        if not clock.fits(tour, 0):
            with self.assertRaises(NotFitting):
                least_gap(clock, tour, count)
            return
        bad = {gap: [k for k in range(1, count) if can_meet(k * gap)] for gap in range(1, widest + 1)}
        gap = min([gap for gap in bad if not bad[gap]], default=None)
        cover = []
        low = 1
        while low < (widest + 1 if gap is None else gap):
            k = bad[low][0]
            high = low
            while high + 1 <= widest and k in bad[high + 1]:
                high += 1
            cover.append((low, high, k))
            low = high + 1
        self.check(clock, tour, count, gap, cover)


class RefusalTest(unittest.TestCase):
    def test_counts(self):
        for clock in (Clock(100), Day(100), Ring(100), Clock(1), Day(1), Ring(1)):
            for count in (1, 11, 0, -1, 12, HUGE, -HUGE):
                with self.assertRaises(BadCount) as caught:
                    least_gap(clock, BACK, count)
                self.assertIs(type(caught.exception), BadCount)
                self.assertEqual(caught.exception.count, count)

    def test_rounds_that_do_not_fit(self):
        for clock in (Clock(4), Day(7), Day(4), Ring(4), Ring(6), Ring(7)):
            for count in (2, 10):
                with self.assertRaises(NotFitting) as caught:
                    least_gap(clock, BACK, count)
                self.assertEqual(caught.exception.reason, "unfit")
        for clock in (Clock(5), Day(8), Ring(5), Ring(8)):
            least_gap(clock, BACK, 2)
            least_gap(clock, BACK, 10)


if __name__ == "__main__":
    unittest.main()
