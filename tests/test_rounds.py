"""Rounds: points 2, 3, 8 to 11, 13 and 46."""

import unittest

from counting import all_lengths, all_steps, spans_of
from neverrounds.errors import BadCount, BadLag, BadName, BadStay, BadText, NoStep
from neverrounds.moments import Moments
from neverrounds.rounds import HALL, Round

HUGE = 10 ** 54 + 98765432109876543210
THREE = [("east", 10, 12), ("hall", 5, 5), ("west", 3, 8)]
SIX = [("b", 1, 2), ("hall", 3, 3), ("a", 2, 5), ("b", 1, 1), ("c", 4, 6), ("a", 1, 9)]


class StaysTest(unittest.TestCase):
    def refuse(self, error, attribute, value, stays):
        with self.subTest(stays):
            with self.assertRaises(error) as caught:
                Round(stays)
            self.assertIs(type(caught.exception), error)
            self.assertEqual(getattr(caught.exception, attribute), value)

    def test_the_number_of_stays(self):
        for count in range(1, 7):
            tour = Round(SIX[:count])
            self.assertEqual(tour.stays, SIX[:count])
            self.assertEqual(len(tour), count)
            self.assertEqual(list(tour), SIX[:count])
        self.refuse(BadCount, "count", 0, [])
        self.refuse(BadCount, "count", 7, SIX + [("d", 1, 1)])
        self.refuse(BadCount, "count", 30, SIX * 5)

    def test_the_most_stays(self):
        self.assertEqual(Round.MOST_STAYS, 6)
        self.assertEqual(Round(SIX).MOST_STAYS, 6)

    def test_names_of_rooms(self):
        for room in ("", "East", "1a", "a" * 13, "a b", "a-b"):
            self.refuse(BadName, "name", room, [(room, 1, 1)])
        self.assertEqual(Round([("a" * 12, 1, 1)]).stays, [("a" * 12, 1, 1)])
        self.assertEqual(Round([("hall", 1, 2)]).stays, [("hall", 1, 2)])

    def test_numbers_of_minutes(self):
        for least, most in ((0, 0), (0, 5), (-1, 5), (-5, -1), (3, 2), (1, 0), (HUGE, HUGE - 1), (-HUGE, HUGE)):
            self.refuse(BadStay, "step", 1, [("a", least, most)])
            self.refuse(BadStay, "step", 3, [("a", 1, 1), ("hall", 2, 2), ("b", least, most), ("c", 1, 1)])
        for least, most in ((1, 1), (1, 2), (HUGE, HUGE), (1, HUGE)):
            self.assertEqual(Round([("a", least, most)]).stays, [("a", least, most)])

    def test_the_first_error(self):
        self.refuse(BadName, "name", "A", [("A", 0, 0)])
        self.refuse(BadStay, "step", 1, [("a", 0, 0), ("B", 1, 1)])
        self.refuse(BadName, "name", "B", [("a", 1, 1), ("B", 1, 1), ("c", 0, 0)])
        self.refuse(BadStay, "step", 2, [("a", 1, 1), ("b", 2, 1), ("c", 0, 0), ("D", 1, 1)])
        self.refuse(BadName, "name", "B", [("a", 1, 1), ("B", 2, 1), ("", 1, 1)])
        self.refuse(BadCount, "count", 7, [("A", 0, 0)] * 7)

    def test_the_list_that_was_passed_in(self):
        stays = list(THREE)
        tour = Round(stays)
        self.assertEqual(stays, THREE)
        stays[0] = ("north", 1, 1)
        stays.append(("south", 1, 1))
        self.assertEqual(tour.stays, THREE)
        self.assertEqual(tour.rooms, ["east", "west"])

    def test_the_lists_that_were_returned(self):
        tour = Round(THREE)
        tour.stays.clear()
        tour.rooms.append("north")
        stays = tour.stays
        stays[1] = ("north", 1, 1)
        self.assertEqual(tour.stays, THREE)
        self.assertEqual(list(tour), THREE)
        self.assertEqual(tour.rooms, ["east", "west"])
        self.assertIs(type(tour.stays), list)

    def test_the_hall(self):
        self.assertEqual(HALL, "hall")

    def test_rooms(self):
        self.assertEqual(Round(SIX).rooms, ["b", "a", "c"])
        self.assertEqual(Round(SIX[::-1]).rooms, ["a", "c", "b"])
        self.assertEqual(Round([("hall", 1, 1), ("hall", 2, 2)]).rooms, [])
        self.assertEqual(Round([("z", 1, 1), ("z", 1, 1), ("a", 1, 1)]).rooms, ["z", "a"])


class StepsTest(unittest.TestCase):
    def refuse(self, step, call):
        with self.assertRaises(NoStep) as caught:
            call(step)
        self.assertEqual(caught.exception.step, step)

    def test_earliest_and_latest(self):
        tour = Round(SIX)
        self.assertEqual([tour.earliest(k) for k in range(7)], [0, 1, 4, 6, 7, 11, 12])
        self.assertEqual([tour.latest(k) for k in range(7)], [0, 2, 5, 10, 11, 17, 26])
        self.assertEqual([tour.shortest, tour.longest], [12, 26])
        one = Round([("a", 3, HUGE)])
        self.assertEqual([one.earliest(0), one.latest(0), one.earliest(1), one.latest(1)], [0, 0, 3, HUGE])
        self.assertEqual([one.shortest, one.longest], [3, HUGE])

    def test_windows(self):
        tour = Round(SIX)
        self.assertEqual([tour.window(k).spans for k in range(1, 7)],
                         [[(0, 1)], [(1, 4)], [(4, 9)], [(6, 10)], [(7, 16)], [(11, 25)]])
        self.assertEqual(Round([("a", 1, 1)]).window(1).spans, [(0, 0)])
        self.assertEqual(Round([("a", 1, HUGE), ("b", HUGE, HUGE)]).window(2).spans, [(1, 2 * HUGE - 1)])

    def test_six_stays_with_large_numbers(self):
        tour = Round([("a", HUGE, 2 * HUGE), ("b", HUGE + 1, 3 * HUGE)] * 3)
        self.assertEqual([tour.earliest(k) for k in range(7)],
                         [0, HUGE, 2 * HUGE + 1, 3 * HUGE + 1, 4 * HUGE + 2, 5 * HUGE + 2, 6 * HUGE + 3])
        self.assertEqual([tour.latest(k) for k in range(7)], [k * HUGE for k in (0, 2, 5, 7, 10, 12, 15)])
        self.assertEqual([tour.shortest, tour.longest], [6 * HUGE + 3, 15 * HUGE])
        self.assertEqual(tour.window(6).spans, [(5 * HUGE + 2, 15 * HUGE - 1)])

    def test_stays_by_step(self):
        tour = Round(SIX)
        self.assertEqual([tour[k] for k in range(1, 7)], SIX)
        self.assertEqual(Round(THREE)[3], ("west", 3, 8))

    def test_steps_out_of_range(self):
        for stays in (SIX, THREE, [("a", 1, 1)]):
            tour = Round(stays)
            for step in (-1, len(stays) + 1, -len(stays), -HUGE, HUGE):
                with self.subTest(stays=len(stays), step=step):
                    self.refuse(step, tour.earliest)
                    self.refuse(step, tour.latest)
            for step in (0, -1, len(stays) + 1, -len(stays), -HUGE, HUGE):
                with self.subTest(stays=len(stays), step=step):
                    self.refuse(step, tour.window)
                    self.refuse(step, lambda k: tour[k])


class OperatorsTest(unittest.TestCase):
    def refuse(self, count, call):
        with self.assertRaises(BadCount) as caught:
            call()
        self.assertEqual(caught.exception.count, count)

    def test_equal(self):
        self.assertIs(Round(THREE) == Round(list(THREE)), True)
        self.assertIs(Round(THREE) != Round(list(THREE)), False)
        for other in (THREE[:2], THREE[::-1], THREE + [("a", 1, 1)], THREE[:2] + [("west", 3, 9)],
                      THREE[:2] + [("west", 2, 8)], THREE[:2] + [("wets", 3, 8)]):
            self.assertIs(Round(THREE) == Round(other), False)
            self.assertIs(Round(other) == Round(THREE), False)
            self.assertIs(Round(THREE) != Round(other), True)

    def test_plus(self):
        first, second = Round(THREE), Round(SIX[:3])
        self.assertEqual((first + second).stays, THREE + SIX[:3])
        self.assertEqual((second + first).stays, SIX[:3] + THREE)
        self.assertEqual((first + first).stays, THREE + THREE)
        self.assertEqual([first.stays, second.stays], [THREE, SIX[:3]])
        self.refuse(7, lambda: first + Round(SIX[:4]))
        self.refuse(12, lambda: Round(SIX) + Round(SIX))

    def test_times(self):
        one, two, three = Round(SIX[:1]), Round(SIX[:2]), Round(THREE)
        for k in range(1, 7):
            self.assertEqual((one * k).stays, SIX[:1] * k)
            self.assertEqual((k * one).stays, SIX[:1] * k)
        self.assertEqual((two * 3).stays, SIX[:2] * 3)
        self.assertEqual((2 * three).stays, THREE * 2)
        self.assertEqual((1 * Round(SIX)).stays, SIX)
        self.assertEqual([one.stays, three.stays], [SIX[:1], THREE])
        self.assertIsInstance(2 * three, Round)

    def test_times_beyond_the_ends(self):
        one, two, three = Round(SIX[:1]), Round(SIX[:2]), Round(THREE)
        for tour, k, count in ((one, 7, 7), (two, 4, 8), (three, 3, 9), (Round(SIX), 2, 12), (one, HUGE, HUGE),
                               (three, HUGE, 3 * HUGE), (one, 0, 0), (three, 0, 0), (three, -1, 0), (two, -HUGE, 0)):
            with self.subTest(k=k, count=count):
                self.refuse(count, lambda: tour * k)
                self.refuse(count, lambda: k * tour)

    def test_lagging(self):
        tour = Round(THREE)
        self.assertEqual(tour.lagging(0).stays, THREE)
        self.assertEqual(tour.lagging(1).stays, [("east", 10, 13), ("hall", 5, 6), ("west", 3, 9)])
        self.assertEqual(tour.lagging(HUGE).stays,
                         [("east", 10, 12 + HUGE), ("hall", 5, 5 + HUGE), ("west", 3, 8 + HUGE)])
        self.assertEqual(tour.stays, THREE)
        self.assertIsInstance(tour.lagging(0), Round)
        for extra in (-1, -2, -HUGE):
            with self.assertRaises(BadLag) as caught:
                tour.lagging(extra)
            self.assertEqual(caught.exception.number, extra)

    def test_iteration(self):
        tour = Round(THREE)
        self.assertEqual([(one, other) for one in tour for other in tour],
                         [(one, other) for one in THREE for other in THREE])


class AllowsTest(unittest.TestCase):
    def test_the_number_of_lengths(self):
        tour = Round(THREE)
        for lengths in ([], [10], [10, 5], [10, 5, 3, 3], [10, 5, 3, 1, 1, 1, 1]):
            self.assertIs(tour.allows(lengths), False)
        self.assertIs(tour.allows([10, 5, 3]), True)

    def test_every_list_of_lengths(self):
        stays = [("a", 2, 4), ("hall", 3, 3), ("a", 1, 2)]
        tour = Round(stays)
        fitting = all_lengths(stays)
        self.assertEqual(len(fitting), 6)
        for one in range(-1, 6):
            for two in range(1, 6):
                for three in range(0, 5):
                    self.assertIs(tour.allows([one, two, three]), [one, two, three] in fitting)

    def test_large_lengths(self):
        tour = Round([("a", HUGE, 2 * HUGE)])
        for length, answer in ((HUGE - 1, False), (HUGE, True), (2 * HUGE, True), (2 * HUGE + 1, False),
                               (-HUGE, False)):
            self.assertIs(tour.allows([length]), answer)

    def test_the_list_stays_as_it_is(self):
        lengths = [12, 5, 9]
        Round(THREE).allows(lengths)
        self.assertEqual(lengths, [12, 5, 9])


class ShadowTest(unittest.TestCase):
    def check(self, stays, start):
        """Compare with the moments of all lists of lengths."""
        counted = {}
        for steps in all_steps(stays, start):
            for room, enter, leave in steps:
                if room != "hall":
                    counted.setdefault(room, set()).update(range(enter, leave))
        shadow = Round(stays)(start)
        with self.subTest(stays=stays, start=start):
            self.assertEqual({room: moments.spans for room, moments in shadow.items()},
                             {room: spans_of(numbers) for room, numbers in counted.items()})
            self.assertEqual(list(shadow), Round(stays).rooms)

    def test_against_all_lengths(self):
        for stays in (THREE, SIX[:4], SIX[::-1][:4], [("a", 1, 3)], [("hall", 1, 3)], [("a", 2, 3), ("a", 1, 2)],
                      [("a", 2, 2), ("b", 2, 2), ("a", 1, 1)], [("a", 2, 3), ("hall", 1, 1), ("a", 4, 4)]):
            for start in (0, 7, -9):
                self.check(stays, start)

    def test_windows_that_overlap_touch_and_stand_apart(self):
        def spans(gap):
            return Round([("a", 2, 4), ("b", gap, gap), ("a", 1, 1)])(0)["a"].spans
        self.assertEqual(spans(1), [(0, 5)])
        self.assertEqual(spans(2), [(0, 6)])
        self.assertEqual(spans(3), [(0, 3), (5, 7)])
        self.assertEqual(Round([("a", 2, 4), ("a", 1, 1)])(10)["a"].spans, [(10, 14)])

    def test_large_numbers(self):
        shadow = Round([("b", 1, HUGE), ("hall", HUGE, HUGE), ("a", 5, 5), ("b", 1, 1)])(-HUGE)
        self.assertEqual(list(shadow), ["b", "a"])
        self.assertEqual(shadow["b"].spans, [(-HUGE, -1), (6, HUGE + 5)])
        self.assertEqual(shadow["a"].spans, [(1, HUGE + 4)])

    def test_a_shadow_that_was_changed(self):
        tour = Round(THREE)
        shadow = tour(0)
        shadow["east"] = Moments.none()
        shadow["north"] = Moments.none()
        self.assertEqual(list(tour(0)), ["east", "west"])
        self.assertEqual(tour(0)["east"].spans, [(0, 11)])


class ReadTest(unittest.TestCase):
    def refuse(self, text, place):
        with self.subTest(text):
            with self.assertRaises(BadText) as caught:
                Round.read(text)
            self.assertEqual(caught.exception.place, place)

    def test_rounds(self):
        self.assertEqual(Round.read("east 10..15, hall 5, west 20..30").stays,
                         [("east", 10, 15), ("hall", 5, 5), ("west", 20, 30)])
        self.assertEqual(Round.read("a 1").stays, [("a", 1, 1)])
        self.assertEqual(Round.read("a 7..7").stays, [("a", 7, 7)])
        self.assertEqual(Round.read(f"a 3..{HUGE}, a {HUGE}").stays, [("a", 3, HUGE), ("a", HUGE, HUGE)])
        self.assertEqual(Round.read(", ".join(["a 1"] * 6)).stays, [("a", 1, 1)] * 6)
        self.assertIsInstance(Round.read("a 1"), Round)

    def test_wrong_pieces(self):
        for piece in ("a  1", "a", "1", "", " ", "a 1 2", "a 1 ", " a 1", " 1", "a ", "a one", "a +1", "a 01", "a 1..",
                      "a ..1", "a ..", "a 1...2", "a 1..2..3", "a 1.2", "a 1 .. 2", "a 1..02", "a -0", "a 1..+2",
                      "a 1..a", "a " + "1" * 61, "a 1.." + "1" * 61, "a 1-2", "a,1", "a\t1", "a 1\n", "a 1,"):
            self.refuse(piece, 1)
            self.refuse("a 1, " + piece, 2)
            self.refuse("a 1, b 2..3, " + piece + ", c", 3)

    def test_commas(self):
        self.refuse("a 1,b 2", 1)
        self.refuse("a 1, b 2,c 3", 2)
        self.refuse("a 1, ", 2)
        self.refuse(", a 1", 1)
        self.refuse("a 1, , b 2", 2)
        self.refuse("a 1,  b 2", 2)
        self.refuse("a 1 , b 2", 1)
        self.refuse("a 1; b 2", 1)
        self.refuse(" a 1, b 2", 1)
        self.refuse("a 1, b 2 ", 2)
        self.refuse("", 1)

    def test_then_the_errors_of_the_stays(self):
        for text, error, attribute, value in (
                ("a 5..3", BadStay, "step", 1), ("a 1, b 0", BadStay, "step", 2), ("a -3..3", BadStay, "step", 1),
                ("a -5..-7", BadStay, "step", 1), ("A 1", BadName, "name", "A"), ("a 1, b, 2", BadText, "place", 2),
                ("a,b 1", BadName, "name", "a,b"), ("A 0, b 1", BadName, "name", "A"),
                ("A 5..3, b", BadText, "place", 2), ("a 0, B 1", BadStay, "step", 1),
                (", ".join(["a 1"] * 7), BadCount, "count", 7),
                (", ".join(["A 0"] * 7), BadCount, "count", 7), (", ".join(["a 1"] * 7) + ", a", BadText, "place", 8)):
            with self.subTest(text):
                with self.assertRaises(error) as caught:
                    Round.read(text)
                self.assertIs(type(caught.exception), error)
                self.assertEqual(getattr(caught.exception, attribute), value)


if __name__ == "__main__":
    unittest.main()
