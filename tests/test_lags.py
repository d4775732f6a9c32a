"""Spare lag: point 32."""

import unittest

from counting import TOURS, all_steps, counted_words, places
from large import HUGE, LARGE, around
from neverrounds.lags import spare_lag
from neverrounds.meets import may_meet
from neverrounds.rounds import Round

FIRST = Round([("east", 10, 12), ("west", 5, 8)])
SECOND = Round([("west", 3, 4)])


def can_share(first, second, apart):
    """Tell, by trying all lengths, whether two groups can share a room."""
    return any(places(one) & places(other) for one in all_steps(first, 0) for other in all_steps(second, apart))


class SpareLagTest(unittest.TestCase):
    def check(self, first, second, apart, spare):
        with self.subTest(first=first.stays, second=second.stays, apart=apart):
            self.assertEqual(spare_lag(first, second, apart), spare)
            self.assertEqual(spare_lag(second, first, -apart), spare)

    def check_by_lagging(self, first, second, apart):
        """The number itself never shares and one more does."""
        spare = spare_lag(first, second, apart)
        self.check(first, second, apart, spare)
        if spare is None:
            self.assertEqual(may_meet(first, second).spans, [])
        elif spare == -1:
            self.assertIn(apart, may_meet(first, second))
        else:
            self.assertGreaterEqual(spare, 0)
            self.assertNotIn(apart, may_meet(first.lagging(spare), second.lagging(spare)))
            self.assertIn(apart, may_meet(first.lagging(spare + 1), second.lagging(spare + 1)))

    def test_each_difference_of_the_example(self):
        # They can meet at 7 to 19; on the low side the second group's one stay lags, on the high side two stays.
        spares = [3, 2, 1, 0] + [-1] * 13 + [0, 0, 1, 1, 2, 2, 3]
        for apart, spare in zip(range(3, 27), spares):
            self.check(FIRST, SECOND, apart, spare)
        self.check(FIRST, SECOND, 0, 6)
        self.check(FIRST, SECOND, -1000, 1006)
        self.check(FIRST, SECOND, 1000, 490)

    def test_a_word_that_is_maybe_or_surely(self):
        self.check(Round([("a", 5, 5)]), Round([("a", 5, 5)]), 0, -1)
        self.check(Round([("a", 5, 5)]), Round([("a", 5, 5)]), 4, -1)
        self.check(Round([("a", 1, 5)]), Round([("a", 1, 1)]), 4, -1)

    def test_one_more_minute_is_enough(self):
        self.check(Round([("a", 5, 5)]), Round([("a", 5, 5)]), 5, 0)
        self.check(Round([("a", 5, 5)]), Round([("a", 5, 5)]), -5, 0)
        self.check(Round([("a", 5, 5)]), Round([("a", 5, 5)]), 6, 1)

    def test_no_greatest_one(self):
        for apart in (0, 1, -1, HUGE, -HUGE):
            self.check(Round([("a", 1, 2)]), Round([("b", 1, 2)]), apart, None)
            self.check(Round([("hall", 1, 2)]), Round([("hall", 1, 2)]), apart, None)
            self.check(Round([("a", 1, 1), ("hall", 1, 2)]), Round([("hall", 1, 2), ("b", 1, 1)]), apart, None)
        self.assertIsNone(spare_lag(Round([("hall", 1, 1)]), Round([("a", 1, 1)]), 0))

    def test_each_step_counts_once(self):
        # The first group is in step i for the last time at 2 * i - 1, the second comes at 100 or later.
        for step in range(1, 7):
            stays = [("hall", 2, 2)] * (step - 1) + [("a", 2, 2)] + [("hall", 2, 2)] * (6 - step)
            first, second = Round(stays), Round([("a", 1, 1)])
            least = min(extra for extra in range(200) if 2 * step - 1 + step * extra >= 100)
            self.check(first, second, 100, least - 1)
            self.check_by_lagging(first, second, 100)
            self.check_by_lagging(first, Round(stays[::-1]), 100)
            self.check_by_lagging(first, Round(stays[::-1]), -100)

    def test_first_and_last_steps_of_both(self):
        ahead, behind = [("a", 3, 4)], [("hall", 2, 2)] * 5
        for one in (ahead + behind, behind + ahead):
            for other in (ahead + behind, behind + ahead):
                for apart in (-10 ** 6, -500, -20, -1, 0, 1, 20, 500, 10 ** 6):
                    self.check_by_lagging(Round(one), Round(other), apart)
        # Before the difference a minute counts as often as the second group's step, behind it as the first one's.
        first, second = Round(behind + ahead), Round(ahead + behind)
        self.assertEqual(spare_lag(first, second, 1000), (1000 - 13 - 1) // 6)
        self.assertEqual(spare_lag(first, second, -1000), 1000 + 7 - 1)
        self.assertEqual(spare_lag(second, first, -1000), (1000 - 13 - 1) // 6)

    def test_a_later_visit_decides(self):
        first = Round([("a", 1, 1), ("b", 5, 5), ("c", 1, 1)])
        second = Round([("a", 2, 2)])
        self.check(first, second, 21, 20)
        # In c a minute of lag counts three times for the first group, in a only once.
        self.check(first, Round([("a", 1, 1), ("c", 1, 1)]), 21, 5)
        self.check(first, Round([("c", 1, 1), ("a", 1, 1)]), 21, 4)
        self.check(first, Round([("c", 1, 1), ("a", 1, 1)]), -21, 9)

    def test_between_two_visits(self):
        # They can meet at -1 to 1 and at 99 to 101.
        first = Round([("a", 2, 2), ("hall", 98, 98), ("a", 2, 2)])
        second = Round([("a", 2, 2)])
        self.assertEqual(may_meet(first, second).spans, [(-1, 1), (99, 101)])
        spares = {1: -1, 2: 0, 3: 1, 50: 48, 51: 47, 97: 1, 98: 0, 99: -1, 101: -1, 102: 0, 105: 1, 107: 1, 108: 2}
        for apart, spare in spares.items():
            self.check(first, second, apart, spare)

    def test_against_all_lengths(self):
        tours = [stays for stays in TOURS if len(stays) < 4]
        for one in tours:
            for other in tours:
                first, second = Round(one), Round(other)
                met, _ = counted_words(one, other)
                for apart in range(-16, 17, 3):
                    spare = spare_lag(first, second, apart)
                    if not met:
                        self.assertIsNone(spare)
                    else:
                        self.assertEqual(spare == -1, apart in met)

    def test_small_rounds_against_longer_and_longer_stays(self):
        rounds = [[("a", 1, 1)], [("a", 1, 2), ("b", 2, 2)], [("b", 1, 2), ("a", 1, 1)], [("hall", 1, 2), ("b", 1, 1)]]
        for one in rounds:
            for other in rounds:
                for apart in range(-8, 9):
                    spare = spare_lag(Round(one), Round(other), apart)
                    for extra in range(5):
                        longer = [[(room, least, most + extra) for room, least, most in stays] for stays in (one, other)]
                        self.assertEqual(can_share(*longer, apart), spare is not None and extra > spare)

    def test_large_numbers(self):
        for first, second in LARGE:
            for apart in around(first, second):
                self.check_by_lagging(first, second, apart)

    def test_the_rounds_stay_as_they_are(self):
        first, second = Round(FIRST.stays), Round(SECOND.stays)
        spare_lag(first, second, 40)
        self.assertEqual([first, second], [FIRST, SECOND])


if __name__ == "__main__":
    unittest.main()
