"""The staircase: points 14 and 17 to 20."""

import unittest

from counting import TOURS, counted_escapes, counted_reach, counted_words, spans_of
from neverrounds.meets import least_lag, may_meet, visits
from neverrounds.moments import Moments
from neverrounds.rounds import Round
from neverrounds.stairs import can_avoid, escape_sets, reach_sets, surely_meet

HUGE = 10 ** 54 + 98765432109876543210
FIRST = Round([("east", 10, 12), ("west", 5, 8)])
SECOND = Round([("west", 3, 4)])
LONG = Round([("a", HUGE, 2 * HUGE), ("b", 1, HUGE), ("a", 5, 5), ("hall", 1, 1), ("c", HUGE, HUGE), ("a", 7, 9)])
OTHER = Round([("hall", 3, 3), ("c", 1, 2), ("a", HUGE, HUGE + 1), ("b", HUGE, 3 * HUGE), ("a", 1, 1), ("b", 2, 2)])
STEEP = Round([("a", 7 * HUGE, 8 * HUGE), ("b", 9 * HUGE, 9 * HUGE + 5), ("c", 3 * HUGE, 9 * HUGE),
               ("a", 8 * HUGE, 9 * HUGE), ("d", 1, 2), ("b", 5 * HUGE, 5 * HUGE)])
PAIRS = [(first, second) for first in TOURS for second in TOURS]
LARGE = [(LONG, OTHER), (OTHER, LONG), (LONG, LONG), (STEEP, LONG), (STEEP, STEEP), (OTHER, STEEP)]


def spans_by_cell(sets):
    """The spans of each set of a dict, with the keys in their order."""
    return [(cell, moments.spans) for cell, moments in sets.items()]


def cells_of(first, second):
    return [(i, j) for i in range(1, len(first) + 1) for j in range(1, len(second) + 1)]


class EscapeTest(unittest.TestCase):
    def test_by_hand(self):
        self.assertEqual(spans_by_cell(escape_sets(FIRST, SECOND)), [((1, 1), [(-3, 9)]), ((2, 1), [])])
        self.assertEqual(spans_by_cell(escape_sets(SECOND, FIRST)), [((1, 1), [(-9, 3)]), ((1, 2), [])])

    def test_a_shared_cell(self):
        tour = Round([("a", 2, 3)])
        self.assertEqual(spans_by_cell(escape_sets(tour, tour)), [((1, 1), [])])
        self.assertEqual(spans_by_cell(escape_sets(tour, Round([("b", 1, 4)]))), [((1, 1), [(-3, 2)])])
        hall = Round([("hall", 1, 2)])
        self.assertEqual(spans_by_cell(escape_sets(hall, hall)), [((1, 1), [(-1, 1)])])

    def test_leaving_at_the_same_moment(self):
        first, second = Round([("a", 2, 2), ("b", 1, 1)]), Round([("b", 2, 2), ("a", 1, 1)])
        self.assertEqual(escape_sets(first, second)[1, 1].spans, [(0, 0)])

    def test_against_all_lengths(self):
        for first, second in PAIRS:
            found = escape_sets(Round(first), Round(second))
            counted = counted_escapes(first, second)
            with self.subTest(first=first, second=second):
                self.assertEqual(spans_by_cell(found), [(cell, spans_of(counted[cell])) for cell in sorted(counted)])

    def test_large_numbers(self):
        for first, second in LARGE:
            found = escape_sets(first, second)
            self.assertEqual(list(found), cells_of(first, second))
            for (i, j), moments in found.items():
                room, _, most = first[i]
                self.assertIs(moments.within(Moments.span(1 - second[j][2], most - 1)), True)
                if room == second[j][0] != "hall":
                    self.assertEqual(moments.spans, [])

    def test_a_dict_that_was_changed(self):
        escape_sets(FIRST, SECOND).clear()
        self.assertEqual(list(escape_sets(FIRST, SECOND)), [(1, 1), (2, 1)])


class ReachTest(unittest.TestCase):
    def test_by_hand(self):
        for apart, sets in ((0, [((1, 1), [(0, 0)])]), (11, [((1, 1), [(11, 11)]), ((2, 1), [(-1, 1)])]),
                            (8, [((1, 1), [(8, 8)]), ((2, 1), [(-3, -2)])]), (12, [((2, 1), [(0, 2)])]),
                            (9, [((1, 1), [(9, 9)]), ((2, 1), [(-3, -1)])]), (19, [((2, 1), [(7, 7)])]),
                            (7, [((1, 1), [(7, 7)]), ((2, 1), [(-3, -3)])]), (20, []), (-3, [((1, 1), [(-3, -3)])]),
                            (6, [((1, 1), [(6, 6)])]), (-4, []), (HUGE, []), (-HUGE, [])):
            with self.subTest(apart):
                self.assertEqual(spans_by_cell(reach_sets(FIRST, SECOND, apart)), sets)

    def test_no_moves_from_a_shared_cell(self):
        first = Round([("a", 1, 3), ("b", 1, 3)])
        second = Round([("a", 2, 2), ("c", 4, 4)])
        self.assertEqual(spans_by_cell(reach_sets(first, second, 0)), [((1, 1), [(0, 0)])])
        self.assertEqual(spans_by_cell(reach_sets(first, second, 1)), [((1, 1), [(1, 1)]), ((2, 1), [(0, 0)]),
                                                                       ((2, 2), [(2, 2)])])

    def test_leaving_at_the_same_moment(self):
        first, second = Round([("a", 2, 2), ("b", 1, 1)]), Round([("c", 2, 2), ("a", 1, 1)])
        self.assertEqual(spans_by_cell(reach_sets(first, second, 0)), [((1, 1), [(0, 0)]), ((2, 2), [(0, 0)])])
        self.assertEqual(spans_by_cell(reach_sets(first, second, 1)), [((1, 1), [(1, 1)]), ((2, 1), [(-1, -1)])])
        self.assertEqual(spans_by_cell(reach_sets(first, second, -1)), [((1, 1), [(-1, -1)]), ((1, 2), [(1, 1)])])

    def test_against_all_lengths(self):
        for first, second in PAIRS[::3]:
            self.compare(first, second)

    def compare(self, first, second):
        """Compare with all pairs of lists of lengths, at every difference and a little beyond."""
        one, other = Round(first), Round(second)
        for apart in range(-other.longest - 2, one.longest + 3):
            counted = counted_reach(first, second, apart)
            with self.subTest(first=first, second=second, apart=apart):
                self.assertEqual(spans_by_cell(reach_sets(one, other, apart)),
                                 [(cell, spans_of(counted[cell])) for cell in sorted(counted)])

    def test_large_numbers(self):
        self.assertEqual(spans_by_cell(reach_sets(LONG, OTHER, 0)),
                         [((1, 1), [(0, 0)]), ((1, 2), [(3, 3)]), ((1, 3), [(4, 5)])])
        for first, second in LARGE:
            for apart in (0, 1, -1, HUGE, -HUGE, first.shortest - 1, first.shortest, 1 - second.shortest,
                          first.longest - 1, 1 - second.longest):
                found = reach_sets(first, second, apart)
                self.assertEqual(list(found), sorted(found))
                self.assertNotIn([], [moments.spans for moments in found.values()])
                self.assertIs(set(found) <= set(cells_of(first, second)), True)
            self.assertEqual(reach_sets(first, second, first.longest), {})
            self.assertEqual(reach_sets(first, second, -second.longest), {})

    def test_a_common_hall_ahead_changes_only_the_first_cells(self):
        hall = Round([("hall", HUGE, HUGE)])
        for apart in range(-9, 26):
            behind = [((i + 1, j + 1), spans) for (i, j), spans in spans_by_cell(reach_sets(FIRST, SECOND, apart))]
            found = spans_by_cell(reach_sets(hall + FIRST, hall + SECOND, apart))
            self.assertEqual([row for row in found if row[0][0] > 1 and row[0][1] > 1], behind)


class AvoidTest(unittest.TestCase):
    def test_the_example(self):
        for apart in range(-10, 30):
            self.assertIs(can_avoid(FIRST, SECOND, apart), not 10 <= apart <= 14)

    def test_a_group_that_is_home_before_the_other_starts(self):
        tour, second = Round([("a", 3, 9)]), Round([("a", 5, 7)])
        for apart, answer in ((2, False), (3, True), (4, True), (-4, False), (-5, True), (-6, True), (0, False)):
            with self.subTest(apart):
                self.assertIs(can_avoid(tour, second, apart), answer)
        for first, other in LARGE:
            for apart in (first.shortest, first.shortest + 1, -other.shortest, -other.shortest - 1):
                self.assertIs(can_avoid(first, other, apart), True)

    def test_one_less_than_home_can_be_avoided_too(self):
        first, second = Round([("a", 3, 9), ("b", 1, 1)]), Round([("a", 5, 7), ("c", 1, 1)])
        self.assertIs(can_avoid(first, second, first.shortest - 1), True)
        self.assertIs(can_avoid(first, second, 1 - second.shortest), True)
        self.assertIs(can_avoid(first, second, first.shortest - 2), False)
        self.assertIs(can_avoid(first, second, 2 - second.shortest), False)

    def test_against_all_lengths(self):
        for first, second in PAIRS:
            surely = counted_words(first, second)[1]
            one, other = Round(first), Round(second)
            for apart in range(-other.longest - 2, one.longest + 3):
                with self.subTest(first=first, second=second, apart=apart):
                    self.assertIs(can_avoid(one, other, apart), apart not in surely)

    def test_large_numbers(self):
        for first, second in LARGE:
            surely = surely_meet(first, second)
            for end in [0] + [end for span in surely for end in span]:
                for apart in (end - 1, end, end + 1):
                    self.assertIs(can_avoid(first, second, apart), apart not in surely)
        tour = Round([("a", HUGE, 2 * HUGE)])
        self.assertIs(can_avoid(tour, tour, HUGE - 1), False)
        self.assertIs(can_avoid(tour, tour, HUGE), True)
        self.assertIs(can_avoid(tour, tour, 1 - HUGE), False)
        self.assertIs(can_avoid(tour, tour, -HUGE), True)


class SurelyTest(unittest.TestCase):
    def test_the_example(self):
        self.assertEqual(surely_meet(FIRST, SECOND).spans, [(10, 14)])
        self.assertEqual(surely_meet(SECOND, FIRST).spans, [(-14, -10)])

    def test_no_common_room(self):
        self.assertEqual(surely_meet(Round([("a", 5, 5)]), Round([("b", 5, 5)])).spans, [])
        self.assertEqual(surely_meet(Round([("hall", 5, 5)]), Round([("hall", 5, 5)])).spans, [])

    def test_one_common_room(self):
        self.assertEqual(surely_meet(Round([("a", 3, 9)]), Round([("a", 5, 7)])).spans, [(-4, 2)])
        self.assertEqual(surely_meet(Round([("a", 1, 9)]), Round([("a", 1, 9)])).spans, [(0, 0)])
        self.assertEqual(surely_meet(Round([("b", 1, 9), ("a", 1, 9)]), Round([("a", 1, 9)])).spans, [])

    def test_several_common_rooms(self):
        first = Round([("a", 4, 4), ("b", 4, 4)])
        second = Round([("b", 4, 4), ("a", 4, 4)])
        self.assertEqual(surely_meet(first, second).spans, [(-7, -1), (1, 7)])
        self.assertEqual(surely_meet(first, second + Round([("c", 9, 9)])).spans, [(-7, -1), (1, 7)])

    def test_two_rooms_of_which_neither_alone_is_sure(self):
        first, second = Round([("a", 1, 1), ("b", 1, 1)]), Round([("a", 1, 3), ("b", 2, 2)])
        self.assertEqual(surely_meet(first, second).spans, [(-1, 0)])
        self.assertNotIn(-1, surely_meet(Round([("a", 1, 1), ("c", 1, 1)]), second))
        self.assertNotIn(-1, surely_meet(Round([("c", 1, 1), ("b", 1, 1)]), second))

    def test_against_all_lengths(self):
        for first, second in PAIRS:
            may, surely = counted_words(first, second)
            with self.subTest(first=first, second=second):
                self.assertEqual(surely_meet(Round(first), Round(second)).spans, spans_of(surely))
                self.assertEqual(may_meet(Round(first), Round(second)).spans, spans_of(may))

    def test_the_rounds_exchanged(self):
        for first, second in [(Round(one), Round(other)) for one, other in PAIRS] + LARGE:
            self.assertEqual(surely_meet(second, first), -surely_meet(first, second))

    def test_where_the_differences_lie(self):
        for first, second in [(Round(one), Round(other)) for one, other in PAIRS] + LARGE:
            surely = surely_meet(first, second)
            self.assertIs(surely.within(may_meet(first, second)), True)
            self.assertIs(surely.within(Moments.span(1 - second.shortest, first.shortest - 1)), True)

    def test_large_numbers(self):
        hall = Round([("hall", HUGE, HUGE)])
        for first, second in [(Round(one), Round(other)) for one, other in PAIRS[::7]]:
            surely = surely_meet(first, second)
            self.assertEqual(surely_meet(hall + first, second), surely >> HUGE)
            self.assertEqual(surely_meet(first, hall + second), surely << HUGE)
            self.assertEqual(surely_meet(hall + first, hall + second), surely)
        tour = Round([("a", HUGE, 2 * HUGE), ("b", 5, HUGE)])
        self.assertEqual(surely_meet(tour, tour).spans, [(1 - HUGE, HUGE - 1)])

    def test_the_rounds_stay_as_they_are(self):
        first, second = LONG.stays, OTHER.stays
        escape_sets(LONG, OTHER)
        reach_sets(LONG, OTHER, HUGE)
        surely_meet(LONG, OTHER)
        can_avoid(LONG, OTHER, 7)
        may_meet(LONG, OTHER)
        least_lag(LONG, OTHER, 7)
        list(visits(LONG, OTHER))
        self.assertEqual(LONG.stays, first)
        self.assertEqual(OTHER.stays, second)


if __name__ == "__main__":
    unittest.main()
