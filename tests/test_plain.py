"""Every list of lengths: point 24."""

import unittest
from itertools import islice

from counting import TOURS, all_lengths
from neverrounds.judge import judge
from neverrounds.plain import every_lengths, plain_word
from neverrounds.rounds import Round

HUGE = 10 ** 54 + 98765432109876543210


class EveryLengthsTest(unittest.TestCase):
    def test_in_ascending_order(self):
        tour = Round([("a", 2, 3), ("hall", 1, 1), ("b", 9, 11)])
        self.assertEqual(list(every_lengths(tour)),
                         [[2, 1, 9], [2, 1, 10], [2, 1, 11], [3, 1, 9], [3, 1, 10], [3, 1, 11]])

    def test_against_all_lengths(self):
        for stays in TOURS + [[("a", 1, 2)] * 6, [("a", 9, 11), ("b", 99, 101)]]:
            found = list(every_lengths(Round(stays)))
            self.assertEqual(found, all_lengths(stays))
            self.assertEqual(found, sorted(found))

    def test_one_list_only(self):
        self.assertEqual(list(every_lengths(Round([("a", 4, 4)]))), [[4]])
        self.assertEqual(list(every_lengths(Round([("a", HUGE, HUGE)] * 6))), [[HUGE] * 6])

    def test_one_by_one(self):
        tour = Round([("a", HUGE, 2 * HUGE), ("b", 1, HUGE), ("hall", 5, 5), ("c", 1, 3)])
        self.assertEqual(list(islice(every_lengths(tour), 7)), [
            [HUGE, 1, 5, 1], [HUGE, 1, 5, 2], [HUGE, 1, 5, 3], [HUGE, 2, 5, 1], [HUGE, 2, 5, 2], [HUGE, 2, 5, 3],
            [HUGE, 3, 5, 1]])
        self.assertEqual(next(iter(every_lengths(Round([("a", 1, HUGE)] * 6)))), [1] * 6)

    def test_the_last_lists_of_a_long_stay(self):
        tour = Round([("a", 1, 2), ("b", HUGE, HUGE + 1)])
        self.assertEqual(list(every_lengths(tour)), [[1, HUGE], [1, HUGE + 1], [2, HUGE], [2, HUGE + 1]])

    def test_lists_that_are_changed(self):
        stays = [("a", 2, 3), ("hall", 1, 2), ("b", 9, 11)]
        found = []
        for lengths in every_lengths(Round(stays)):
            found.append(list(lengths))
            lengths[0] = 77
            lengths.reverse()
            lengths.clear()
        self.assertEqual(found, all_lengths(stays))

    def test_each_list_is_new(self):
        found = list(every_lengths(Round([("a", 1, 3), ("b", 1, 2)])))
        self.assertEqual(len({id(lengths) for lengths in found}), 6)
        self.assertEqual([type(lengths) for lengths in found], [list] * 6)

    def test_two_loops_side_by_side(self):
        tour = Round([("a", 1, 2), ("b", 3, 4)])
        rows = all_lengths(tour.stays)
        self.assertEqual([(one, other) for one in every_lengths(tour) for other in every_lengths(tour)],
                         [(one, other) for one in rows for other in rows])
        self.assertEqual(tour.stays, [("a", 1, 2), ("b", 3, 4)])


class PlainWordTest(unittest.TestCase):
    def test_by_hand(self):
        first = Round([("east", 10, 12), ("west", 5, 8)])
        second = Round([("west", 3, 4)])
        for apart, word in ((6, "never"), (7, "maybe"), (9, "maybe"), (10, "surely"), (14, "surely"), (15, "maybe"),
                            (19, "maybe"), (20, "never")):
            self.assertEqual(plain_word(first, second, apart), word)
            self.assertEqual(plain_word(second, first, -apart), word)

    def test_against_judge(self):
        for first in TOURS:
            for second in TOURS[::2]:
                one, other = Round(first), Round(second)
                if len(all_lengths(first)) * len(all_lengths(second)) <= 60:
                    for apart in range(-other.longest - 1, one.longest + 2):
                        with self.subTest(first=first, second=second, apart=apart):
                            self.assertEqual(plain_word(one, other, apart), judge(one, other, apart).word)

    def test_2000_pairs(self):
        first = Round([("a", 1, 10), ("b", 1, 5)])
        second = Round([("b", 1, 2), ("c", 3, 6), ("a", 1, 5)])
        self.assertEqual(len(all_lengths(first.stays)) * len(all_lengths(second.stays)), 2000)
        for apart in range(-13, 16):
            self.assertEqual(plain_word(first, second, apart), judge(first, second, apart).word)

    def test_large_numbers(self):
        first = Round([("a", HUGE, HUGE + 3), ("b", HUGE, HUGE + 1)])
        second = Round([("b", HUGE, HUGE), ("a", 1, 2)])
        words = set()
        for apart in (0, 1, HUGE - 1, HUGE, HUGE + 3, HUGE + 4, 2 * HUGE + 3, 2 * HUGE + 4, -1, -2, -3, -HUGE,
                      1 - HUGE, -HUGE - 1, -HUGE - 2):
            word = plain_word(first, second, apart)
            self.assertEqual(word, judge(first, second, apart).word)
            words.add(word)
        self.assertEqual(words, {"never", "maybe", "surely"})


if __name__ == "__main__":
    unittest.main()
