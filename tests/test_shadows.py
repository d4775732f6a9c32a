"""Shadows beside each other: point 33."""

import unittest
from itertools import product

from counting import TOURS, all_steps, places
from large import HUGE, LARGE, LONG
from neverrounds.meets import may_meet
from neverrounds.rounds import Round
from neverrounds.shadows import compare, probe

WORDS = {(True, True): "alike", (True, False): "less", (False, True): "more", (False, False): "apart"}


def shadow_places(stays):
    """All pairs (moment, room) of a group that starts at 0, over all lengths."""
    return set().union(*[places(steps) for steps in all_steps(stays, 0)])


class ShadowsTest(unittest.TestCase):
    def check(self, one, other, forth, back):
        first, second = Round(one), Round(other)
        with self.subTest(first=one, second=other):
            self.assertEqual(probe(first, second), forth)
            self.assertEqual(probe(second, first), back)
            self.assertEqual(compare(first, second), WORDS[forth is None, back is None])
            self.assertEqual(compare(second, first), WORDS[back is None, forth is None])
            self.check_guest(first, second)
            self.check_guest(second, first)

    def check_guest(self, first, second):
        """A group of one minute in the room of the probe can meet the first round, but not the second."""
        found = probe(first, second)
        if found is not None:
            moment, room = found
            guest = Round([(room, 1, 1)])
            self.assertIn(moment, may_meet(first, guest))
            self.assertNotIn(moment, may_meet(second, guest))

    def test_equal_rounds(self):
        for stays in TOURS + [LONG.stays]:
            self.check(stays, stays, None, None)

    def test_rounds_with_the_same_shadows(self):
        self.check([("a", 2, 4)], [("a", 1, 3), ("a", 1, 1)], None, None)
        self.check([("a", 2, 2), ("hall", 1, 1)], [("a", 1, 1), ("a", 1, 1)], None, None)
        self.check([("hall", 3, 9)], [("hall", 1, 1)], None, None)

    def test_a_room_that_the_other_does_not_visit(self):
        self.check([("a", 2, 3)], [("b", 2, 3)], (0, "a"), (0, "b"))
        self.check([("a", 2, 3), ("b", 1, 1)], [("a", 2, 3)], (2, "b"), None)
        self.check([("a", 2, 3)], [("hall", 2, 3)], (0, "a"), None)
        self.check([("hall", 2, 3), ("a", 1, 1)], [("hall", 2, 3)], (2, "a"), None)

    def test_the_first_moment_only(self):
        self.check([("hall", 2, 2), ("a", 3, 3)], [("hall", 3, 3), ("a", 2, 2)], (2, "a"), None)

    def test_the_last_moment_only(self):
        self.check([("a", 3, 5)], [("a", 3, 4)], (4, "a"), None)
        self.check([("a", 1, 5)], [("a", 3, 4)], (4, "a"), None)

    def test_both_ends(self):
        self.check([("hall", 2, 2), ("a", 3, 3)], [("hall", 3, 3), ("a", 3, 3)], (2, "a"), (5, "a"))

    def test_the_middle(self):
        gap = [("a", 2, 2), ("hall", 3, 3), ("a", 4, 4)]
        self.check([("a", 9, 9)], gap, (2, "a"), None)
        self.check([("a", 2, 2), ("hall", 4, 4), ("a", 3, 3)], gap, None, (5, "a"))
        self.check([("a", 3, 3), ("hall", 2, 2), ("a", 4, 4)], gap, (2, "a"), None)

    def test_two_rooms_at_the_same_moment(self):
        one = [("hall", 1, 2), ("b", 1, 2), ("a", 1, 2)]
        self.check(one, [("hall", 1, 1)], (1, "b"), None)
        # From 2 on the group can be in b and in a.
        self.check(one, [("hall", 1, 1), ("b", 1, 1)], (2, "a"), None)
        self.check([("hall", 1, 2), ("a", 1, 2), ("b", 1, 2)], [("hall", 1, 1), ("a", 1, 1)], (2, "a"), None)

    def test_rooms_are_compared_as_strings(self):
        def tour(room, other):
            return [("hall", 1, 3), (room, 1, 3), (other, 1, 3)]
        for room, other in (("ab", "a"), ("a", "ab"), ("a9", "aa"), ("aa", "a9"), ("room10", "room9"),
                            ("room9", "room10"), ("z", "hallway"), ("hallway", "z")):
            known = [("hall", 1, 1), (room, 1, 1)]
            self.check(tour(room, other), known, (2, min(room, other)), None)

    def test_the_moment_goes_ahead_of_the_room(self):
        self.check([("z", 2, 2), ("a", 2, 2)], [("hall", 1, 1)], (0, "z"), None)
        self.check([("z", 2, 2), ("a", 2, 2)], [("z", 2, 2)], (2, "a"), None)

    def test_a_room_that_lies_in_the_others(self):
        # All of a lies in the other shadow, and the probe stands in b.
        self.check([("a", 1, 2), ("b", 1, 1)], [("a", 4, 4)], (1, "b"), (2, "a"))

    def test_rooms_visited_several_times(self):
        one = [("a", 1, 1), ("b", 1, 1), ("a", 1, 1), ("b", 1, 1), ("a", 1, 1)]
        self.check(one, one[:3], (3, "b"), None)
        self.check(one, one[::-1][:4], (4, "a"), None)
        self.check(one, one[1:], (0, "a"), (0, "b"))

    def test_against_all_lengths(self):
        shadows = [shadow_places(stays) for stays in TOURS]
        for (one, here), (other, there) in product(zip(TOURS, shadows), repeat=2):
            self.check(one, other, min(here - there, default=None), min(there - here, default=None))

    def test_large_numbers(self):
        for first, second in LARGE:
            self.check_guest(first, second)
            self.check_guest(second, first)
        longer = Round([("a", HUGE, 2 * HUGE + 1)])
        self.check([("a", HUGE, 2 * HUGE)], longer.stays, None, (2 * HUGE, "a"))
        self.check([("a", HUGE, HUGE), ("hall", HUGE, HUGE), ("a", HUGE, HUGE)], [("a", 3 * HUGE, 3 * HUGE)],
                   None, (HUGE, "a"))

    def test_a_third_round_meets_the_greater_shadow_too(self):
        for one, other in product(TOURS, repeat=2):
            first, second = Round(one), Round(other)
            if probe(first, second) is None:
                for stays in TOURS:
                    third = Round(stays)
                    self.assertTrue(may_meet(first, third).within(may_meet(second, third)))


if __name__ == "__main__":
    unittest.main()
