"""Two groups: points 14 to 16."""

import unittest

from counting import TOURS, all_steps, counted_words, places, spans_of
from neverrounds.meets import least_lag, may_meet, visits
from neverrounds.rounds import Round

HUGE = 10 ** 54 + 98765432109876543210
FIRST = Round([("east", 10, 12), ("west", 5, 8)])
SECOND = Round([("west", 3, 4)])
LONG = Round([("a", HUGE, 2 * HUGE), ("b", 1, HUGE), ("a", 5, 5), ("hall", 1, 1), ("c", HUGE, HUGE), ("a", 7, 9)])
OTHER = Round([("hall", 3, 3), ("c", 1, 2), ("a", HUGE, HUGE + 1), ("b", HUGE, 3 * HUGE), ("a", 1, 1), ("b", 2, 2)])


class VisitsTest(unittest.TestCase):
    def test_two_rounds(self):
        self.assertEqual(list(visits(FIRST, SECOND)), [(2, 1, "west", 7, 19)])
        self.assertEqual(list(visits(SECOND, FIRST)), [(1, 2, "west", -19, -7)])
        self.assertEqual(list(visits(Round([("a", 1, 1)]), Round([("b", 1, 1)]))), [])
        self.assertEqual(list(visits(Round([("hall", 1, 9)]), Round([("hall", 1, 9)]))), [])
        self.assertEqual(list(visits(Round([("a", 1, 1)]), Round([("a", 1, 1)]))), [(1, 1, "a", 0, 0)])

    def test_rooms_that_are_visited_several_times(self):
        first = Round([("a", 1, 2), ("b", 3, 3), ("a", 2, 4), ("hall", 1, 1), ("b", 1, 1)])
        second = Round([("b", 2, 2), ("a", 1, 3), ("hall", 5, 5), ("a", 1, 1)])
        self.assertEqual(list(visits(first, second)), [
            (1, 2, "a", -4, -1), (1, 4, "a", -10, -7), (2, 1, "b", 0, 4), (3, 2, "a", 0, 6), (3, 4, "a", -6, 0),
            (5, 1, "b", 6, 10)])

    def test_a_round_and_itself(self):
        tour = Round([("a", 1, 2), ("b", 3, 3), ("a", 2, 4)])
        self.assertEqual(list(visits(tour, tour)), [
            (1, 1, "a", -1, 1), (1, 3, "a", -8, -3), (2, 2, "b", -3, 3), (3, 1, "a", 3, 8), (3, 3, "a", -4, 4)])

    def test_large_numbers(self):
        self.assertEqual(list(visits(LONG, OTHER)), [
            (1, 3, "a", -HUGE - 5, 2 * HUGE - 5), (1, 5, "a", -4 * HUGE - 6, -5),
            (2, 4, "b", -3 * HUGE - 5, 2 * HUGE - 5), (2, 6, "b", -3 * HUGE - 8, HUGE - 6),
            (3, 3, "a", -4, 3 * HUGE), (3, 5, "a", -3 * HUGE - 5, HUGE),
            (5, 2, "c", HUGE + 3, 4 * HUGE + 2),
            (6, 3, "a", HUGE + 2, 4 * HUGE + 10), (6, 5, "a", -2 * HUGE + 1, 2 * HUGE + 10)])

    def test_two_loops_side_by_side(self):
        tour = Round([("a", 1, 2), ("b", 3, 3), ("a", 2, 4)])
        rows = list(visits(tour, tour))
        self.assertEqual(list(zip(visits(tour, tour), visits(tour, tour))), list(zip(rows, rows)))
        self.assertEqual([(x, y) for x in visits(tour, tour) for y in visits(tour, tour)],
                         [(x, y) for x in rows for y in rows])
        running, behind = visits(tour, tour), visits(FIRST, SECOND)
        self.assertEqual([next(running), next(behind), next(running)], [rows[0], (2, 1, "west", 7, 19), rows[1]])
        self.assertIsNone(next(behind, None))
        self.assertEqual(list(running), rows[2:])

    def test_against_all_lengths(self):
        for first in TOURS:
            for second in TOURS:
                rows = []
                for i, (room, _, _) in enumerate(first):
                    for j, (place, _, _) in enumerate(second):
                        if room == place != "hall":
                            met = {x - y for one in all_steps(first, 0) for other in all_steps(second, 0)
                                   for x in range(one[i][1], one[i][2]) for y in range(other[j][1], other[j][2])}
                            rows.append((i + 1, j + 1, room, min(met), max(met)))
                            self.assertEqual(len(met), max(met) - min(met) + 1)
                self.assertEqual(list(visits(Round(first), Round(second))), rows)


class MayMeetTest(unittest.TestCase):
    def test_the_example(self):
        self.assertEqual(may_meet(FIRST, SECOND).spans, [(7, 19)])

    def test_no_common_room(self):
        self.assertEqual(may_meet(Round([("a", 1, 5)]), Round([("b", 1, 5)])).spans, [])
        self.assertEqual(may_meet(Round([("hall", 1, 5)]), Round([("hall", 1, 5)])).spans, [])

    def test_spans_that_touch_and_spans_apart(self):
        second = Round([("a", 1, 1)])
        for gap, spans in ((1, [(0, 0), (2, 2)]), (2, [(0, 0), (3, 3)])):
            self.assertEqual(may_meet(Round([("a", 1, 1), ("b", gap, gap), ("a", 1, 1)]), second).spans, spans)
        self.assertEqual(may_meet(Round([("a", 1, 2), ("a", 1, 1)]), second).spans, [(0, 2)])

    def test_against_all_lengths(self):
        for first in TOURS:
            for second in TOURS:
                with self.subTest(first=first, second=second):
                    self.assertEqual(may_meet(Round(first), Round(second)).spans,
                                     spans_of(counted_words(first, second)[0]))

    def test_the_rounds_exchanged(self):
        for first in TOURS:
            for second in TOURS:
                self.assertEqual(may_meet(Round(second), Round(first)), -may_meet(Round(first), Round(second)))

    def test_large_numbers(self):
        self.assertEqual(may_meet(LONG, OTHER).spans, [(-4 * HUGE - 6, 4 * HUGE + 10)])
        one = Round([("hall", HUGE, HUGE), ("a", 3, 5)])
        self.assertEqual(may_meet(one, Round([("a", 2, 2)])).spans, [(HUGE - 1, HUGE + 4)])
        self.assertEqual(may_meet(Round([("a", 2, 2)]), one).spans, [(-HUGE - 4, 1 - HUGE)])


class LeastLagTest(unittest.TestCase):
    def test_the_example(self):
        self.assertEqual(least_lag(FIRST, SECOND, 16), 2)

    def test_at_every_difference_of_the_example(self):
        self.assertEqual([least_lag(FIRST, SECOND, apart) for apart in range(6, 21)],
                         [None, 1, 0, 0, 0, 0, 0, 0, 0, 1, 2, 3, 4, 5, None])

    def test_it_is_an_integer_or_none(self):
        self.assertIs(type(least_lag(FIRST, SECOND, 10)), int)
        self.assertIsNone(least_lag(FIRST, SECOND, 20))
        self.assertIsNone(least_lag(Round([("a", 1, 9)]), Round([("b", 1, 9)]), 0))
        self.assertIsNone(least_lag(Round([("hall", 1, 9)]), Round([("hall", 1, 9)]), 0))

    def test_against_all_lengths(self):
        for first in TOURS:
            for second in TOURS:
                self.compare(first, second)

    def compare(self, first, second):
        """Compare with the least lag of all pairs of lists of lengths."""
        counted = {}
        least = sum(stay[1] for stay in first + second)
        for one in all_steps(first, 0):
            for other in all_steps(second, 0):
                lag = one[-1][2] + other[-1][2] - least
                for apart in {x - y for x, room in places(one) for y, place in places(other) if room == place}:
                    counted[apart] = min(counted.get(apart, lag), lag)
        for apart in range(-30, 31):
            with self.subTest(first=first, second=second, apart=apart):
                self.assertEqual(least_lag(Round(first), Round(second), apart), counted.get(apart))

    def test_large_numbers(self):
        one = Round([("hall", 1, HUGE), ("a", 3, 5)])
        other = Round([("a", 2, 2)])
        for apart, lag in ((-2, None), (-1, None), (0, 0), (3, 0), (4, 1), (HUGE, HUGE - 3), (HUGE + 4, HUGE + 1),
                           (HUGE + 5, None)):
            with self.subTest(apart):
                self.assertEqual(least_lag(one, other, apart), lag)
        # The first group lags wherever it can, HUGE, HUGE - 1 and 2 minutes, and the second one never.
        self.assertEqual(least_lag(LONG, OTHER, 4 * HUGE + 10), 2 * HUGE + 1)
        self.assertIsNone(least_lag(LONG, OTHER, 4 * HUGE + 11))
        self.assertIsNone(least_lag(LONG, OTHER, -4 * HUGE - 7))


if __name__ == "__main__":
    unittest.main()
