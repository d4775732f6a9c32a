"""Walks: points 11 and 12."""

import unittest

from counting import all_lengths, all_steps, places, steps_of
from neverrounds.errors import BadLengths
from neverrounds.rounds import Round
from neverrounds.walks import shared, walk

HUGE = 10 ** 54 + 98765432109876543210
STAYS = [("east", 2, 4), ("hall", 3, 3), ("west", 1, 2), ("east", 5, 9)]


class WalkTest(unittest.TestCase):
    def test_steps(self):
        self.assertEqual(walk(Round(STAYS), 100, [2, 3, 1, 9]),
                         [("east", 100, 102), ("hall", 102, 105), ("west", 105, 106), ("east", 106, 115)])
        self.assertEqual(walk(Round([("a", 1, 1)]), 0, [1]), [("a", 0, 1)])

    def test_against_all_lengths(self):
        for start in (0, 5, -1, -20, HUGE, -HUGE):
            for lengths in all_lengths(STAYS):
                self.assertEqual(walk(Round(STAYS), start, lengths), steps_of(STAYS, start, lengths))

    def test_large_lengths(self):
        tour = Round([("a", 1, HUGE), ("b", HUGE, HUGE)])
        self.assertEqual(walk(tour, -HUGE, [HUGE, HUGE]), [("a", -HUGE, 0), ("b", 0, HUGE)])

    def test_six_large_lengths(self):
        tour = Round([("a", 1, HUGE), ("b", 1, HUGE)] * 3)
        self.assertEqual(walk(tour, 5, [HUGE, HUGE - 1] * 3)[4:],
                         [("a", 4 * HUGE + 3, 5 * HUGE + 3), ("b", 5 * HUGE + 3, 6 * HUGE + 2)])

    def refuse(self, lengths, step):
        with self.subTest(lengths):
            with self.assertRaises(BadLengths) as caught:
                walk(Round(STAYS), 0, lengths)
            self.assertEqual(caught.exception.step, step)

    def test_wrong_numbers_of_lengths(self):
        for lengths in ([], [2], [2, 3, 1], [2, 3, 1, 5, 5], [0, 0, 0], [0] * 5):
            self.refuse(lengths, 0)

    def test_wrong_lengths(self):
        for lengths, step in (([1, 3, 1, 5], 1), ([5, 3, 1, 5], 1), ([2, 2, 1, 5], 2), ([2, 4, 1, 5], 2),
                              ([2, 3, 0, 5], 3), ([2, 3, 3, 5], 3), ([2, 3, 1, 4], 4), ([2, 3, 1, 10], 4),
                              ([1, 2, 0, 4], 1), ([4, 2, 3, 4], 2), ([4, 3, 3, 10], 3), ([-2, 3, 1, 5], 1),
                              ([2, 3, 1, HUGE], 4), ([2, -HUGE, 1, 5], 2)):
            self.refuse(lengths, step)
        for lengths in ([2, 3, 1, 5], [4, 3, 2, 9]):
            self.assertEqual(len(walk(Round(STAYS), 0, lengths)), 4)

    def test_the_list_stays_as_it_is(self):
        lengths = [2, 3, 1, 5]
        steps = walk(Round(STAYS), 0, lengths)
        self.assertEqual(lengths, [2, 3, 1, 5])
        steps.clear()
        self.assertEqual(len(walk(Round(STAYS), 0, lengths)), 4)


class SharedTest(unittest.TestCase):
    def check(self, one, other, found):
        with self.subTest(one=one, other=other):
            self.assertEqual(shared(one, other), found)
            self.assertEqual(shared(other, one), found)

    def test_one_room(self):
        self.check([("a", 0, 5)], [("a", 3, 9)], (3, "a"))
        self.check([("a", 0, 5)], [("a", 4, 9)], (4, "a"))
        self.check([("a", 0, 5)], [("a", 5, 9)], None)
        self.check([("a", 0, 5)], [("a", 6, 9)], None)
        self.check([("a", 0, 5)], [("a", 0, 5)], (0, "a"))
        self.check([("a", 0, 9)], [("a", 3, 4)], (3, "a"))
        self.check([("a", -9, -2)], [("a", -5, 3)], (-5, "a"))
        self.check([("a", 0, 5)], [("b", 0, 5)], None)

    def test_the_hall(self):
        self.check([("hall", 0, 5)], [("hall", 0, 5)], None)
        self.check([("hall", 0, 5), ("a", 5, 8)], [("hall", 0, 7), ("a", 7, 9)], (7, "a"))

    def test_several_common_moments(self):
        self.check([("a", 0, 5), ("b", 5, 9)], [("a", 4, 6), ("b", 6, 20)], (4, "a"))
        self.check([("a", 0, 5), ("b", 5, 9), ("a", 9, 12)], [("b", 2, 6), ("a", 6, 20)], (5, "b"))
        self.check([("z", 0, 5), ("a", 5, 9)], [("z", 3, 5), ("a", 5, 9)], (3, "z"))
        self.check([("a", 0, 2), ("b", 2, 4), ("a", 4, 6)], [("a", 3, 9)], (4, "a"))

    def test_leaving_and_entering_at_the_same_moment(self):
        self.check([("a", 0, 3), ("b", 3, 6)], [("b", 0, 3), ("a", 3, 6)], None)
        self.check([("a", 0, 3), ("b", 3, 6)], [("a", 3, 6), ("b", 6, 7)], None)
        self.check([("a", 0, 3), ("a", 3, 6)], [("b", 0, 3), ("a", 3, 4)], (3, "a"))

    def test_large_numbers(self):
        self.check([("a", -HUGE, HUGE)], [("a", HUGE - 1, 2 * HUGE)], (HUGE - 1, "a"))
        self.check([("a", -HUGE, HUGE)], [("a", HUGE, 2 * HUGE)], None)

    def test_six_large_lengths(self):
        one = walk(Round([("a", 1, HUGE), ("b", 1, HUGE)] * 3), 0, [HUGE] * 6)
        other = walk(Round([("b", 1, HUGE), ("a", 1, HUGE)] * 3), 0, [HUGE] * 6)
        late = walk(Round([("b", 1, HUGE), ("a", 1, HUGE)] * 3), 1, [HUGE] * 6)
        self.check(one, other, None)
        self.check(one, late, (HUGE, "b"))

    def test_against_counted_moments(self):
        other_stays = [("hall", 1, 2), ("west", 2, 3), ("east", 1, 2), ("west", 1, 1)]
        for apart in range(-14, 20):
            for one in all_steps(STAYS, 0)[::3]:
                for other in all_steps(other_stays, apart):
                    common = places(one) & places(other)
                    self.assertEqual(shared(one, other), min(common, default=None))

    def test_the_walks_stay_as_they_are(self):
        one, other = [("a", 0, 5), ("b", 5, 9)], [("b", 4, 6), ("a", 6, 20)]
        shared(one, other)
        self.assertEqual([one, other], [[("a", 0, 5), ("b", 5, 9)], [("b", 4, 6), ("a", 6, 20)]])


if __name__ == "__main__":
    unittest.main()
