"""Texts: points 44 to 48."""

import unittest

from large import HUGE, LARGE
from neverrounds.clocks import Clock, Day, Ring
from neverrounds.desk import Desk
from neverrounds.errors import (BadCount, BadLength, BadLimit, BadLine, BadName, BadNumber, BadStay, BadText, Clash,
                                Closed, Full, NameTaken, NotFitting, NothingToRedo, NothingToUndo)
from neverrounds.moments import Moments
from neverrounds.rounds import Round
from neverrounds.texts import read_desk, read_moments, write_desk, write_moments, write_round

SIXTY = "123456789" + "0" * 50 + "7"


class MomentsTest(unittest.TestCase):
    TEXTS = [
        ([], "none"),
        ([(0, 0)], "0"),
        ([(1, 4)], "1..4"),
        ([(-3, -1)], "-3..-1"),
        ([(-7, -7), (-5, 0), (2, 2)], "-7 -5..0 2"),
        ([(0, 6), (20, 56)], "0..6 20..56"),
        ([(-HUGE, HUGE)], f"{-HUGE}..{HUGE}"),
        ([(-int(SIXTY), -1), (1, int(SIXTY))], f"-{SIXTY}..-1 1..{SIXTY}"),
    ]

    def test_written_and_read(self):
        for spans, text in self.TEXTS:
            with self.subTest(text):
                self.assertEqual(write_moments(Moments(spans)), text)
                self.assertIs(type(read_moments(text)), Moments)
                self.assertEqual(read_moments(text).spans, spans)

    def test_words_in_any_order(self):
        for text, spans in (("5 3 4", [(3, 5)]), ("1..9 3..4 3..4", [(1, 9)]), ("7..8 1..2", [(1, 2), (7, 8)]),
                            ("4..4", [(4, 4)]), ("0 -1", [(-1, 0)]), ("-3..-1 5", [(-3, -1), (5, 5)]),
                            (" ".join(["3"] * 60), [(3, 3)]),
                            (" ".join(str(2 * k) for k in range(60)), [(2 * k, 2 * k) for k in range(60)])):
            with self.subTest(text):
                self.assertEqual(read_moments(text).spans, spans)

    def test_wrong_words(self):
        wrong = ("", "a", "none", "3..1", "-1..-3", "1...2", "..", "...", "1..", "..2", "1..2..3", "01", "+1", "-0", "-",
                 "1.2", "1-2", "1,2", "00", "-01", "1..02", "+1..2", "1..+2", "-0..3", "1..-0", "1" + SIXTY,
                 "-1" + SIXTY, "1..1" + SIXTY, "1\n", "1\t2", "\u0661", "1_0", "None", "0x1", "1..a")
        for word in wrong:
            if word != "none":
                self.refuse(word, 1)
            self.refuse("5 " + word, 2)
            self.refuse(word + " 5", 1)
            self.refuse("1 2..3 " + word + " 5", 3)

    def refuse(self, text, place):
        with self.subTest(text):
            with self.assertRaises(BadText) as caught:
                read_moments(text)
            self.assertIs(type(caught.exception), BadText)
            self.assertEqual(caught.exception.place, place)

    def test_the_first_wrong_word(self):
        self.refuse("1 x 3..1 +5", 2)
        self.refuse("1 2 3..1 x", 3)
        self.refuse("3..1 x", 1)

    def test_spaces(self):
        for text, place in (("", 1), (" ", 1), (" 1", 1), ("1 ", 2), ("1  2", 2), ("1 2  3", 3), ("1 .. 2", 2),
                            ("none ", 1), (" none", 1), ("1 none", 2), ("1.. 2", 1)):
            self.refuse(text, place)

    def test_the_set_stays_as_it_is(self):
        moments = Moments([(1, 4), (7, 9)])
        write_moments(moments)
        self.assertEqual(moments.spans, [(1, 4), (7, 9)])


class RoundTest(unittest.TestCase):
    TEXTS = [
        ([("east", 10, 15), ("hall", 5, 5), ("west", 20, 30)], "east 10..15, hall 5, west 20..30"),
        ([("a", 1, 1)], "a 1"),
        ([("a", 1, 2), ("a", 1, 2)], "a 1..2, a 1..2"),
        ([("room7", HUGE, 2 * HUGE)], f"room7 {HUGE}..{2 * HUGE}"),
        ([("a", 1, int(SIXTY))], f"a 1..{SIXTY}"),
        ([("hall", 3, 4)] * 6, ", ".join(["hall 3..4"] * 6)),
    ]

    def test_written_and_read(self):
        for stays, text in self.TEXTS:
            with self.subTest(text):
                self.assertEqual(write_round(Round(stays)), text)
                self.assertEqual(Round.read(text).stays, stays)

    def test_large_rounds(self):
        for tour, _ in LARGE:
            self.assertEqual(Round.read(write_round(tour)), tour)


def made(clock):
    """A desk with a line of each kind, and with deeds of each kind behind it."""
    desk = Desk(clock, ("east", 20, 5), limit=5)
    desk.book("red", Round([("east", 10, 15), ("hall", 5, 5)]), 0)
    desk.book("gold", Round([("b", 1, 1)]), 3)
    desk.book("blue", Round([("west", 1, 2)]), 30)
    desk.close("west", 0, 30)
    desk.cancel("gold")
    desk.move("red", 2)
    return desk


LINES = ["limit 5", "close east 20 5", "close west 0 30", "group red 2 east 10..15, hall 5", "group blue 30 west 1..2"]


class DeskTest(unittest.TestCase):
    def check(self, desk, lines):
        self.assertEqual(write_desk(desk), lines)
        self.assertIs(type(write_desk(desk)), list)
        found = read_desk(list(lines))
        self.assertIs(type(found), Desk)
        self.assertIs(type(found.clock), type(desk.clock))
        self.assertEqual(found.clock.words(), desk.clock.words())
        self.assertEqual([found.limit, found.closings(), found.groups()],
                         [desk.limit, desk.closings(), desk.groups()])
        self.assertEqual(write_desk(found), lines)
        with self.assertRaises(NothingToUndo):
            found.undo()
        with self.assertRaises(NothingToRedo):
            found.redo()

    def test_written_and_read(self):
        self.check(made(Day(60)), ["day 60"] + LINES)
        self.check(made(Ring(60)), ["ring 60"] + LINES)

    def test_without_anything(self):
        self.check(Desk(Day(1)), ["day 1", "limit 8"])
        self.check(Desk(Ring(HUGE), limit=1), [f"ring {HUGE}", "limit 1"])

    def test_placed_starts(self):
        desk = Desk(Ring(60), ("a", -5, 3))
        desk.book("red", Round([("b", 1, 1)]), 130)
        self.check(desk, ["ring 60", "limit 8", "close a 55 3", "group red 10 b 1"])
        self.assertEqual(read_desk(["ring 60", "limit 8", "close a -5 3", "group red 130 b 1"]).groups(), desk.groups())

    def test_a_clock_that_is_neither_is_only_written(self):
        desk = Desk(Clock(60), ("a", -5, 3))
        desk.book("red", Round([("b", 1, 1)]), -130)
        lines = ["60", "limit 8", "close a -5 3", "group red -130 b 1"]
        self.assertEqual(write_desk(desk), lines)
        self.refuse(lines, 1, None)

    def test_large_numbers(self):
        for kind in (Day, Ring):
            desk = Desk(kind(300 * HUGE), ("z", HUGE, HUGE))
            for place, (tour, _) in enumerate(LARGE[:2] + LARGE[3:4]):
                desk.book(f"g{place}", tour, 60 * HUGE * place)
            self.check(desk, write_desk(desk))

    def test_as_many_lines_as_a_desk_has(self):
        desk = Desk(Day(1000), *[(room, 0, 10) for room in "abcdef"])
        desk.book_all([(f"g{k}", Round([("a", 5, 5)] * 6), 10 + 30 * k) for k in range(8)])
        self.assertEqual(len(write_desk(desk)), 16)
        self.check(desk, write_desk(desk))

    def test_a_desk_that_was_read_is_like_any_other(self):
        desk = read_desk(["day 60"] + LINES)
        desk.book("green", Round([("c", 1, 1)]), 0)
        desk.undo()
        with self.assertRaises(NothingToUndo):
            desk.undo()
        self.check(desk, ["day 60"] + LINES)
        desk.redo()
        self.assertEqual(list(desk), ["red", "blue", "green"])

    def test_each_reading_gives_a_new_desk(self):
        lines = ["day 60"] + LINES
        one, other = read_desk(lines), read_desk(lines)
        one.cancel("red")
        self.assertEqual(list(other), ["red", "blue"])
        self.assertEqual(lines, ["day 60"] + LINES)
        write_desk(one).clear()
        self.assertEqual(len(write_desk(one)), 5)

    def refuse(self, lines, number, cause):
        """The lines are refused at a number, from this error behind it (or none)."""
        with self.subTest(lines=lines):
            with self.assertRaises(BadLine) as caught:
                read_desk(lines)
            self.assertIs(type(caught.exception), BadLine)
            self.assertEqual(caught.exception.number, number)
            if cause is None:
                self.assertIsNone(caught.exception.__cause__)
            else:
                self.assertIs(type(caught.exception.__cause__), cause)
        return caught.exception.__cause__

    def test_lines_that_are_missing(self):
        self.refuse([], 1, None)
        self.refuse(["day 60"], 2, None)
        self.refuse(["ring 60"], 2, None)
        # The first line is wrong already.
        self.refuse(["hour 60"], 1, None)
        self.refuse(["day 0"], 1, BadLength)

    def test_first_lines(self):
        rest = ["limit 8", "close a 0 5"]
        for line in ("", " ", "60", "day", "ring", "day  60", " day 60", "day 60 ", "day 60 7", "Day 60", "days 60",
                     "clock 60", "limit 8", "close a 0 5", "group red 0 a 1", "ring60", "day\t60", "none"):
            self.refuse([line] + rest, 1, None)
        for line in ("day x", "day 060", "ring +60", "day -0", "day ", "ring 1" + SIXTY, "day 6.0", "day 1..2"):
            self.refuse([line] + rest, 1, BadNumber)
        for word in ("day", "ring"):
            for length in (0, -1, -HUGE):
                self.assertEqual(self.refuse([f"{word} {length}"] + rest, 1, BadLength).number, length)

    def test_second_lines(self):
        for line in ("", "8", "limit", "limit  8", " limit 8", "limit 8 ", "limit 8 8", "Limit 8", "day 60",
                     "close a 0 5", "group red 0 a 1", "limits 8"):
            self.refuse(["day 60", line, "close a 0 5"], 2, None)
        for line in ("limit x", "limit 08", "limit +8", "limit "):
            self.refuse(["day 60", line], 2, BadNumber)
        for limit in (0, 9, -1, HUGE):
            self.assertEqual(self.refuse(["day 60", f"limit {limit}"], 2, BadLimit).number, limit)

    def test_lines_of_closings(self):
        head = ["day 60", "limit 8", "close a 0 5"]
        for line in ("close", "close a", "close a 0", "close a 0 5 5", "close a  0 5", "close a 0  5", " close a 0 5",
                     "close a 0 5 ", "Close a 0 5", "closing a 0 5", "", " "):
            self.refuse(head + [line, "close b 0 5"], 4, None)
        for line in ("close b x 5", "close b 0 x", "close b 00 5", "close b 0 +5", "close b 0..5 5", "close b 0 ",
                     "close b  5"):
            self.refuse(head + [line], 4, BadNumber)
        for line, error in (("close B 0 5", BadName), ("close hall 0 5", BadName), ("close  0 5", BadName),
                            ("close b 0 0", BadStay), ("close b 0 -1", BadStay), ("close b 56 5", NotFitting),
                            ("close b -1 5", NotFitting), ("close a 4 5", Closed)):
            self.refuse(head + [line, "close c 0 5"], 4, error)
        six = [f"close {room} 0 5" for room in "abcdef"]
        self.assertEqual(len(read_desk(head[:2] + six).closings()), 6)
        self.refuse(head[:2] + six + ["close g 0 5"], 9, Full)

    def test_lines_of_groups(self):
        head = ["day 60", "limit 2", "close a 0 5", "group red 10 a 5"]
        for line in ("group", "group blue", "group blue 20", "Group blue 20 a 5", " group blue 20 a 5", "groups b 20 a 5",
                     "red 10 a 5", "20", "", "undo", "limit 3", "day 60"):
            self.refuse(head + [line, "group green 30 a 5"], 5, None)
        for line in ("group blue x a 5", "group blue  20 a 5", "group blue 020 a 5", "group blue a 5 20"):
            self.refuse(head + [line], 5, BadNumber)
        for line, error in (("group blue 20  a 5", BadText), ("group blue 20 a", BadText), ("group blue 20 ", BadText),
                            ("group blue 20 a 5 ", BadText), ("group blue 20 a 5,b 5", BadText),
                            ("group blue 20 a 5, b", BadText), ("group blue 20 A 5", BadName),
                            ("group blue 20 a 0", BadStay), ("group blue 20 a 5..4", BadStay),
                            ("group blue 20 " + ", ".join(["b 1"] * 7), BadCount), ("group Blue 20 a 5", BadName),
                            ("group  20 a 5", BadName), ("group red 20 a 5", NameTaken),
                            ("group blue 56 a 5", NotFitting), ("group blue -1 a 5", NotFitting),
                            ("group blue 4 a 5", Closed), ("group blue 14 a 5", Clash)):
            self.refuse(head + [line, "group green 30 a 5"], 5, error)
        self.refuse(head + ["group blue 20 a 5", "group green 30 a 5"], 6, Full)
        self.assertEqual(len(read_desk(head + ["group blue 20 a 5"])), 2)

    def test_rounds_in_any_form_that_is_read(self):
        desk = read_desk(["ring 60", "limit 8", "group red 0 a 5..5, hall 1..2", "group blue -10 a 3"])
        self.assertEqual(write_desk(desk)[2:], ["group red 0 a 5, hall 1..2", "group blue 50 a 3"])

    def test_closings_behind_groups(self):
        lines = ["day 60", "limit 8", "group red 10 a 5", "close b 0 5"]
        self.refuse(lines, 4, None)
        self.refuse(lines[:2] + ["close a 0 5"] + lines[2:], 5, None)
        self.refuse(lines[:3] + ["close hall x 5"], 4, None)
        self.refuse(lines[:3] + ["group blue 20 a 5", "close b 0 5"], 5, None)

    def test_the_first_wrong_line(self):
        lines = ["day 60", "limit 2", "close a 0 5", "group red 10 a 5", "group blue 20 a 5"]
        wrong = ["hour 60", "limit 9", "close a x 5", "group red 0 a 5", "group red 20 a 5"]
        read_desk(lines)
        for place in range(5):
            self.assertEqual(len(wrong[place:]), 5 - place)
            with self.assertRaises(BadLine) as caught:
                read_desk(lines[:place] + wrong[place:])
            self.assertEqual(caught.exception.number, place + 1)

    def test_a_hundred_lines(self):
        lines = ["day 60", "limit 8"] + ["close a 0 5"] * 98
        self.refuse(lines, 4, Closed)
        long = "group red 0 " + ", ".join([f"abcdefghijkl {SIXTY}..{SIXTY}"] * 6)
        self.assertLess(len(long), 1000)
        self.refuse(["day 60", "limit 8", long], 3, NotFitting)
        self.assertEqual(read_desk([f"ring {SIXTY}", "limit 8", "group red 0 " + ", ".join(["a 1..9"] * 6)])["red"], 0)


if __name__ == "__main__":
    unittest.main()
