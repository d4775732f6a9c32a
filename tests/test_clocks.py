"""Clocks: points 28 to 30, and the widest gap of point 31."""

import unittest

from counting import TOURS, counted_words, members
from neverrounds.clocks import Clock, Day, Ring
from neverrounds.errors import BadLength
from neverrounds.judge import parting
from neverrounds.meets import may_meet
from neverrounds.moments import Moments
from neverrounds.rounds import Round

HUGE = 10 ** 54 + 98765432109876543210
KINDS = (Clock, Day, Ring)
FIRST = Round([("east", 10, 12), ("west", 5, 8)])
SECOND = Round([("west", 3, 4)])


class LengthTest(unittest.TestCase):
    def test_lengths(self):
        for kind in KINDS:
            for length in (1, 2, 60, HUGE):
                clock = kind(length)
                self.assertIs(type(clock), kind)
                self.assertEqual(clock.length, length)

    def test_wrong_lengths(self):
        for kind in KINDS:
            for length in (0, -1, -60, -HUGE):
                with self.assertRaises(BadLength) as caught:
                    kind(length)
                self.assertIs(type(caught.exception), BadLength)
                self.assertEqual(caught.exception.number, length)

    def test_the_kinds(self):
        self.assertEqual([kind.__bases__ for kind in (Day, Ring)], [(Clock,), (Clock,)])
        for name in ("fits", "widest_gap", "words"):
            for kind in KINDS:
                self.assertIn(name, vars(kind))
        for name in ("placed", "meets"):
            self.assertIn(name, vars(Ring))

    def test_words(self):
        self.assertEqual([kind(60).words() for kind in KINDS], ["60", "day 60", "ring 60"])
        self.assertEqual([kind(1).words() for kind in KINDS], ["1", "day 1", "ring 1"])
        self.assertEqual([kind(HUGE).words() for kind in KINDS], [f"{HUGE}", f"day {HUGE}", f"ring {HUGE}"])


class PlacedTest(unittest.TestCase):
    STARTS = (-HUGE, -121, -60, -59, -1, 0, 1, 59, 60, 61, 120, HUGE)

    def test_clock_and_day(self):
        for kind in (Clock, Day):
            self.assertEqual([kind(60).placed(start) for start in self.STARTS], list(self.STARTS))

    def test_ring(self):
        self.assertEqual([Ring(60).placed(start) for start in self.STARTS],
                         [-HUGE - (-HUGE // 60) * 60, 59, 0, 1, 59, 0, 1, 59, 0, 1, 0, HUGE - HUGE // 60 * 60])
        self.assertEqual([Ring(1).placed(start) for start in (-5, 0, 7)], [0, 0, 0])
        self.assertEqual([Ring(HUGE).placed(start) for start in (-1, 0, HUGE - 1, HUGE, 5 * HUGE + 3)],
                         [HUGE - 1, 0, HUGE - 1, 0, 3])


class MeetsTest(unittest.TestCase):
    def test_the_empty_set(self):
        for kind in KINDS:
            for apart in (-60, -1, 0, 1, 60, HUGE):
                self.assertIs(kind(60).meets(Moments.none(), apart), False)

    def test_clock_and_day(self):
        differences = Moments([(-7, -5), (0, 0), (58, 62), (HUGE, HUGE)])
        for kind in (Clock, Day):
            for apart in (-8, -7, -5, -4, -1, 0, 1, 57, 58, 60, 62, 63, 118, 120, HUGE - 1, HUGE, HUGE + 60):
                self.assertIs(kind(60).meets(differences, apart), apart in differences)

    def test_ring_against_all_turns(self):
        sets = [[(0, 0)], [(58, 62)], [(-2, 1)], [(-7, -5)], [(120, 121)], [(119, 119)], [(-60, -60)], [(7, 65)],
                [(7, 66)], [(7, 67)], [(-65, -7)], [(-66, -7)], [(-30, 29)], [(-30, 28)], [(3, 5), (64, 64), (-1, -1)],
                [(-500, 500)], [(-301, -299), (299, 301)]]
        for spans in sets:
            differences = Moments(spans)
            counted = members(differences)
            for apart in range(-125, 126):
                with self.subTest(spans=spans, apart=apart):
                    self.assertIs(Ring(60).meets(differences, apart),
                                  any(apart + k * 60 in counted for k in range(-15, 16)))

    def test_spans_as_long_as_the_ring(self):
        for low in (-100, -60, -7, 0, 5, 60, HUGE):
            for length in (1, 2, 7, 60):
                short, whole = Moments.span(low, low + length - 2), Moments.span(low, low + length - 1)
                longer = Moments.span(low, low + length)
                ring = Ring(length)
                self.assertIs(ring.meets(short, low - 1), False)
                self.assertIs(ring.meets(short, low + length - 1), False)
                for differences in (whole, longer):
                    self.assertEqual({ring.meets(differences, apart) for apart in range(-70, 70)}, {True})

    def test_ring_with_large_numbers(self):
        ring = Ring(HUGE)
        differences = Moments([(5 * HUGE - 1, 5 * HUGE + 1), (7, 9)])
        for apart, answer in ((0, True), (-1, True), (1, True), (2, False), (-2, False), (7 - 9 * HUGE, True),
                              (9 + HUGE, True), (10 + HUGE, False), (6 - HUGE, False), (3 * HUGE, True)):
            self.assertIs(ring.meets(differences, apart), answer)

    def test_can_meet(self):
        for apart in range(-70, 150):
            for kind in (Clock, Day):
                self.assertIs(kind(60).can_meet(FIRST, SECOND, apart), 7 <= apart <= 19)
                self.assertIs(kind(60).can_meet(SECOND, FIRST, apart), -19 <= apart <= -7)
            self.assertIs(Ring(60).can_meet(FIRST, SECOND, apart), 7 <= apart % 60 <= 19)
            self.assertIs(Ring(60).can_meet(SECOND, FIRST, apart), 41 <= apart % 60 <= 53)
            self.assertIs(Ring(13).can_meet(FIRST, SECOND, apart), True)
            self.assertIs(Ring(14).can_meet(FIRST, SECOND, apart), apart % 14 != 6)

    def test_can_meet_against_all_lengths(self):
        for first in TOURS[::2]:
            for second in TOURS[::3]:
                may, _ = counted_words(first, second)
                one, other = Round(first), Round(second)
                for apart in range(-20, 21):
                    self.assertIs(Clock(9).can_meet(one, other, apart), apart in may)
                    self.assertIs(Day(9).can_meet(one, other, apart), apart in may)
                    self.assertIs(Ring(9).can_meet(one, other, apart),
                                  any(apart + 9 * k in may for k in range(-9, 10)))


class VerdictTest(unittest.TestCase):
    def test_clock_and_day(self):
        found = parting(FIRST, SECOND)
        for kind in (Clock, Day):
            words = [kind(60).verdict(found, apart) for apart in (6, 7, 9, 10, 14, 15, 19, 20, 66, 70, -50)]
            self.assertEqual(words, ["never", "maybe", "maybe", "surely", "surely", "maybe", "maybe", "never", "never",
                                     "never", "never"])

    def test_ring(self):
        found = parting(FIRST, SECOND)
        for turn in (0, 60, -60, 60 * HUGE, -60 * HUGE):
            words = [Ring(60).verdict(found, turn + apart) for apart in (6, 7, 9, 10, 14, 15, 19, 20, 0, 59)]
            self.assertEqual(words, ["never", "maybe", "maybe", "surely", "surely", "maybe", "maybe", "never", "never",
                                     "never"])
        # On a short ring some copies may meet where others surely do.
        self.assertEqual([Ring(8).verdict(found, apart) for apart in range(8)],
                         ["maybe", "maybe", "surely", "surely", "surely", "surely", "surely", "maybe"])
        self.assertEqual({Ring(5).verdict(found, apart) for apart in range(-9, 30)}, {"surely"})

    def test_against_all_lengths(self):
        for first in TOURS[::3]:
            for second in TOURS[1::2]:
                may, surely = counted_words(first, second)
                found = parting(Round(first), Round(second))
                for apart in range(-20, 21):
                    turns = [apart + 9 * k for k in range(-9, 10)]
                    word = "surely" if surely & set(turns) else "maybe" if may & set(turns) else "never"
                    self.assertEqual(Ring(9).verdict(found, apart), word)
                    word = "surely" if apart in surely else "maybe" if apart in may else "never"
                    self.assertEqual([Clock(9).verdict(found, apart), Day(9).verdict(found, apart)], [word, word])


class FitsTest(unittest.TestCase):
    def check(self, clock, tour, start, answer):
        with self.subTest(clock=clock.words(), tour=tour.stays, start=start):
            self.assertIs(clock.fits(tour, start), answer)

    def test_a_most_that_is_too_long(self):
        tour = Round([("hall", 1, 8), ("a", 2, 3)])
        for start in (0, -HUGE, HUGE):
            self.check(Clock(8), tour, start, True)
            self.check(Clock(7), tour, start, False)
        self.check(Day(11), tour, 0, True)
        for kind in KINDS:
            self.check(kind(7), tour, 0, False)
            self.check(kind(7), Round([("a", 2, 3), ("hall", 1, 8)]), 0, False)
        # On a ring the stays in rooms alone may fit where the one in the hall does not.
        self.check(Ring(8), Round([("hall", 8, 8), ("a", 1, 1)]), 0, True)
        self.check(Ring(7), Round([("hall", 8, 8), ("a", 1, 1)]), 0, False)
        self.check(Ring(8), Round([("a", 8, 8)]), 0, True)
        self.check(Ring(8), Round([("a", 1, 9)]), 0, False)
        self.check(Clock(HUGE), Round([("a", 1, HUGE)]), 0, True)
        self.check(Clock(HUGE), Round([("a", 1, HUGE + 1)]), 0, False)

    def test_day(self):
        tour = Round([("a", 2, 5), ("hall", 1, 7), ("b", 3, 3)])
        for length in (15, 16, 40, HUGE):
            for start, answer in ((-1, False), (0, True), (length - 15, True), (length - 14, False), (-HUGE, False),
                                  (length, False), (5 * HUGE, False)):
                self.check(Day(length), tour, start, answer)
        self.check(Day(14), tour, 0, False)
        self.check(Day(14), tour, -1, False)

    def test_clock(self):
        tour = Round([("a", 2, 5)] * 6)
        for start in (-1, 0, 5, -HUGE, HUGE):
            self.check(Clock(5), tour, start, True)
            self.check(Clock(4), tour, start, False)

    def test_ring(self):
        # A group can be in a from 0 to 9, and again from 22 to 31; copies meet up to a difference of 9, and from 13 on.
        tour = Round([("a", 5, 10), ("hall", 17, 18), ("a", 4, 4)])
        self.assertEqual(may_meet(tour, tour).spans, [(-31, -13), (-9, 9), (13, 31)])
        for length in range(18, 40):
            self.check(Ring(length), tour, 0, length >= 32)
        tour = Round([("a", 3, 3), ("hall", 7, 7), ("a", 2, 2)])
        self.assertEqual(may_meet(tour, tour).spans, [(-11, -8), (-2, 2), (8, 11)])
        for length, answer in ((7, True), (8, False), (11, False), (12, True), (13, True)):
            self.check(Ring(length), tour, 0, answer)
        tour = Round([("a", 3, 3), ("hall", 5, 5), ("hall", 5, 5), ("a", 1, 1)])
        self.assertEqual(may_meet(tour, tour).spans, [(-13, -11), (-2, 2), (11, 13)])
        for length, answer in ((5, True), (6, False), (7, True), (8, True), (10, True), (11, False), (14, True)):
            self.check(Ring(length), tour, 0, answer)

    def test_the_start_on_a_ring(self):
        for start in (-1, 0, 59, 60, HUGE, -HUGE):
            self.check(Ring(20), FIRST, start, True)
            self.check(Ring(8), Round([("a", 1, 8)]), start, True)
            self.check(Ring(8), Round([("a", 1, 8), ("a", 1, 1)]), start, False)
        self.check(Ring(12), Round([("hall", 12, 12)] * 6), 5, True)

    def test_ring_against_all_lengths(self):
        for stays in TOURS:
            may, _ = counted_words(stays, stays)
            for length in range(1, 25):
                answer = max(most for _, _, most in stays) <= length
                answer = answer and not any(k * length in may for k in range(-30, 31) if k)
                self.check(Ring(length), Round(stays), 0, answer)

    def test_ring_with_large_numbers(self):
        tour = Round([("a", 1, HUGE), ("hall", 5 * HUGE, 6 * HUGE), ("a", 1, 1)])
        self.check(Ring(6 * HUGE), tour, 0, False)
        self.check(Ring(7 * HUGE), tour, 0, False)
        self.check(Ring(7 * HUGE + 1), tour, 0, True)
        self.check(Ring(6 * HUGE - 1), tour, 0, False)


class WidestTest(unittest.TestCase):
    def test_each_clock(self):
        tour = Round([("a", 2, 5), ("hall", 1, 7), ("b", 3, 3)])
        for count in (2, 3, 4, 10):
            self.assertEqual(Clock(60).widest_gap(tour, count), 15)
            self.assertEqual(Ring(60).widest_gap(tour, count), 60)
        self.assertEqual([Day(60).widest_gap(tour, count) for count in (2, 3, 4, 10)], [45, 22, 15, 5])
        self.assertEqual([Day(length).widest_gap(tour, 2) for length in (15, 16, 17)], [0, 1, 2])
        self.assertEqual([Day(length).widest_gap(tour, 10) for length in (15, 23, 24)], [0, 0, 1])

    def test_large_numbers(self):
        tour = Round([("a", 2, HUGE), ("b", 2 * HUGE, 2 * HUGE)])
        for count in (2, 3, 10):
            self.assertEqual(Clock(60 * HUGE).widest_gap(tour, count), 3 * HUGE)
            self.assertEqual(Ring(60 * HUGE).widest_gap(tour, count), 60 * HUGE)
        self.assertEqual([Day(60 * HUGE).widest_gap(tour, count) for count in (2, 4)], [57 * HUGE, 19 * HUGE])


if __name__ == "__main__":
    unittest.main()
