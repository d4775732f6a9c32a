"""The desk and its deeds: points 36 to 41, and desk.group of point 43."""

import unittest

from large import HUGE
from neverrounds.clocks import Clock, Day, Ring
from neverrounds.desk import Desk
from neverrounds.errors import (BadLimit, BadName, BadStay, Clash, Closed, Full, NameTaken, NotFitting, NothingToRedo,
                                NothingToUndo, TooFew, UnknownGroup)
from neverrounds.placing import Group, Named, Timed
from neverrounds.rounds import Round

FIVE = Round([("a", 5, 5)])
LOOSE = Round([("b", 1, 5), ("hall", 1, 9), ("a", 2, 3)])
FREE = Round([("hall", 1, 1)])
WRONG_NAMES = ("", "Red", "1", "red ", "abcdefghijklm", "\u00e4", "r-d")
ATTRIBUTES = {BadName: "name", BadStay: "step", BadLimit: "number", Full: "number", TooFew: "count", Closed: "place",
              Clash: "name", NameTaken: "name", UnknownGroup: "name"}


def state(desk):
    """All that a desk tells of itself."""
    return [desk.clock.words(), desk.limit, desk.closings(), desk.groups(), list(desk), len(desk)]


class DeskTest(unittest.TestCase):
    def refuse(self, error, value, call, *arguments):
        """A call raises this very error with this argument; a bound method's desk stays as it is."""
        desk = getattr(call, "__self__", None)
        before = None if desk is None else state(desk)
        with self.subTest(call=getattr(call, "__name__", "call"), arguments=str(arguments)):
            with self.assertRaises(error) as caught:
                call(*arguments)
            self.assertIs(type(caught.exception), error)
            if error in ATTRIBUTES:
                self.assertEqual(getattr(caught.exception, ATTRIBUTES[error]), value)
            if desk is not None:
                self.assertEqual(state(desk), before)

    def full_of_closings(self):
        """A day of 100 minutes with six closings."""
        return Desk(Day(100), *[(room, 0, 10) for room in "abcdef"])


class MadeTest(DeskTest):
    def test_a_new_desk(self):
        for clock in (Clock(60), Day(60), Ring(60)):
            desk = Desk(clock)
            self.assertIs(desk.clock, clock)
            self.assertEqual(state(desk), [clock.words(), 8, [], [], [], 0])
            self.refuse(NothingToUndo, None, desk.undo)
            self.refuse(NothingToRedo, None, desk.redo)

    def test_limits(self):
        for limit in range(1, 9):
            self.assertEqual(Desk(Day(60), limit=limit).limit, limit)
        for limit in (0, 9, -1, 10, HUGE, -HUGE):
            self.refuse(BadLimit, limit, lambda: Desk(Day(60), limit=limit))
            self.refuse(BadLimit, limit, lambda: Desk(Day(60), ("hall", 0, 0), limit=limit))

    def test_the_limit_is_passed_by_keyword_only(self):
        with self.assertRaises(TypeError):
            Desk(Day(60), 5)

    def test_closings(self):
        desk = Desk(Day(60), ("a", 0, 5), ("b", 3, 1), ("a", 5, 55), limit=2)
        self.assertEqual(state(desk), ["day 60", 2, [("a", 0, 5), ("b", 3, 1), ("a", 5, 55)], [], [], 0])
        self.refuse(NothingToUndo, None, desk.undo)
        self.assertEqual(len(self.full_of_closings().closings()), 6)

    def test_closings_that_are_refused(self):
        rows = [("a", 0, 10), ("b", 0, 10)]
        for closing, error, value in ((("Red", 0, 5), BadName, "Red"), (("hall", 0, 5), BadName, "hall"),
                                      (("c", 0, 0), BadStay, 1), (("c", 96, 5), NotFitting, None),
                                      (("c", -1, 5), NotFitting, None), (("b", 9, 5), Closed, 2),
                                      (("a", 5, 1), Closed, 1)):
            self.refuse(error, value, lambda: Desk(Day(100), *rows, closing))
            self.refuse(error, value, lambda: Desk(Day(100), *rows, closing, ("b", 0, 0), limit=1))
        seven = [(room, 0, 10) for room in "abcdefg"]
        self.refuse(Full, 6, lambda: Desk(Day(100), *seven))
        self.refuse(Full, 6, lambda: Desk(Day(100), *seven, limit=1))
        self.refuse(Closed, 1, lambda: Desk(Day(100), ("a", 0, 10), ("a", 9, 1), ("hall", 0, 1)))

    def test_two_desks(self):
        clock = Day(60)
        one, other = Desk(clock), Desk(clock)
        one.book("red", FIVE, 0)
        one.close("c", 0, 5)
        one.change_limit(3)
        self.assertEqual(state(other), ["day 60", 8, [], [], [], 0])
        other.book("red", FIVE, 2)
        one.undo()
        self.assertEqual(state(other), ["day 60", 8, [], [("red", FIVE, 2)], ["red"], 1])
        self.refuse(NothingToRedo, None, other.redo)


class CloseTest(DeskTest):
    def test_names(self):
        desk = Desk(Day(100))
        for room in WRONG_NAMES + ("hall",):
            self.refuse(BadName, room, desk.close, room, 0, 5)
            # Also where the minutes are wrong, or the closing does not fit.
            self.refuse(BadName, room, desk.close, room, 0, 0)
            self.refuse(BadName, room, desk.close, room, -1, 5)
            self.refuse(BadName, room, self.full_of_closings().close, room, 0, 5)

    def test_minutes(self):
        desk = Desk(Day(100))
        for minutes in (0, -1, -HUGE):
            self.refuse(BadStay, 1, desk.close, "a", 0, minutes)
            self.refuse(BadStay, 1, desk.close, "a", -1, minutes)
            self.refuse(BadStay, 1, self.full_of_closings().close, "g", 0, minutes)
        desk.close("a", 0, 1)
        self.assertEqual(desk.closings(), [("a", 0, 1)])

    def test_six_closings(self):
        desk = self.full_of_closings()
        self.refuse(Full, 6, desk.close, "g", 0, 5)
        # Also where the closing does not fit, or is in the way of a closing or a group.
        self.refuse(Full, 6, desk.close, "g", 98, 5)
        self.refuse(Full, 6, desk.close, "a", 0, 5)
        desk.book("red", FIVE, 10)
        self.refuse(Full, 6, desk.close, "a", 12, 5)
        other = Desk(Day(100), ("a", 0, 1), ("a", 1, 1), limit=1)
        for start in range(2, 6):
            other.close("a", start, 1)
        self.refuse(Full, 6, other.close, "a", 6, 1)
        other.undo()
        other.close("a", 6, 1)
        self.refuse(Full, 6, other.close, "a", 5, 1)

    def test_what_does_not_fit(self):
        desk = Desk(Day(100), ("a", 90, 10))
        desk.book("red", FIVE, 0)
        for start, minutes in ((-1, 5), (96, 5), (0, 101), (-1, 1), (100, 1)):
            self.refuse(NotFitting, None, desk.close, "c", start, minutes)
        # Also where a closing or a group is in the way.
        self.refuse(NotFitting, None, desk.close, "a", 95, 6)
        self.refuse(NotFitting, None, desk.close, "a", -1, 3)
        self.refuse(NotFitting, None, Desk(Ring(10)).close, "a", 0, 11)
        self.refuse(NotFitting, None, Desk(Clock(10)).close, "a", 0, 11)
        for clock in (Clock(10), Day(10), Ring(10)):
            whole = Desk(clock)
            whole.close("a", 0, 10)
            self.assertEqual(whole.closings(), [("a", 0, 10)])

    def test_closings_in_the_way(self):
        desk = Desk(Day(100), ("b", 0, 100), ("a", 10, 5), ("a", 15, 5))
        for start, minutes, place in ((10, 5, 2), (14, 1, 2), (14, 2, 2), (15, 1, 3), (9, 2, 2), (5, 50, 2), (19, 9, 3)):
            self.refuse(Closed, place, desk.close, "a", start, minutes)
        self.refuse(Closed, 1, desk.close, "b", 99, 1)
        desk.close("a", 20, 5)
        desk.close("a", 9, 1)
        self.assertEqual(desk.closings()[3:], [("a", 20, 5), ("a", 9, 1)])

    def test_groups_in_the_way(self):
        desk = Desk(Day(100), ("c", 0, 9))
        desk.book("red", LOOSE, 0)
        desk.book("blue", Round([("b", 9, 9)]), 5)
        # red can be in b at 0 to 4, in a at 2 to 16.
        for room, start, minutes, name in (("b", 0, 1, "red"), ("b", 4, 1, "red"), ("b", 4, 9, "red"),
                                           ("b", 5, 1, "blue"), ("b", 13, 1, "blue"), ("a", 2, 1, "red"),
                                           ("a", 16, 1, "red")):
            self.refuse(Clash, name, desk.close, room, start, minutes)
        for room, start, minutes in (("b", 14, 9), ("a", 0, 2), ("a", 17, 9)):
            desk.close(room, start, minutes)
        self.assertEqual(len(desk.closings()), 4)

    def test_a_closing_ahead_of_a_group(self):
        desk = Desk(Day(100), ("a", 0, 5))
        desk.book("red", FIVE, 5)
        self.refuse(Closed, 1, desk.close, "a", 4, 2)
        desk.cancel("red")
        desk.close("a", 5, 2)
        self.assertEqual(len(desk.closings()), 2)

    def test_placed_starts(self):
        desk = Desk(Ring(10), ("a", -3, 2), ("b", 25, 2))
        desk.close("c", 40, 1)
        self.assertEqual(desk.closings(), [("a", 7, 2), ("b", 5, 2), ("c", 0, 1)])
        self.refuse(Closed, 1, desk.close, "a", 108, 1)
        desk.close("a", -1, 8)
        self.assertEqual(desk.closings()[3], ("a", 9, 8))
        self.refuse(Closed, 4, desk.close, "a", 6, 1)
        self.assertEqual(Desk(Clock(10), ("a", -33, 2), ("a", 44, 2)).closings(), [("a", -33, 2), ("a", 44, 2)])


class BookTest(DeskTest):
    def test_booking(self):
        desk = Desk(Day(100))
        desk.book("red", FIVE, 3)
        desk.book("blue", LOOSE, 40)
        desk.book("hall", FREE, 0)
        self.assertEqual(desk.groups(), [("red", FIVE, 3), ("blue", LOOSE, 40), ("hall", FREE, 0)])

    def test_names(self):
        desk = Desk(Day(100), ("a", 90, 10), limit=1)
        for name in WRONG_NAMES:
            self.refuse(BadName, name, desk.book, name, FIVE, 0)
            # Also where the round does not fit or something is in the way.
            self.refuse(BadName, name, desk.book, name, FIVE, 96)
            self.refuse(BadName, name, desk.book, name, FIVE, 90)
        desk.book("red", FIVE, 0)
        for name in WRONG_NAMES:
            self.refuse(BadName, name, desk.book, name, FIVE, 0)
            self.refuse(BadName, name, desk.book, name, FREE, 50)

    def test_names_that_are_taken(self):
        desk = Desk(Day(100), ("a", 90, 10), limit=2)
        desk.book("red", FIVE, 0)
        for tour, start in ((FIVE, 50), (FIVE, 0), (FIVE, -1), (FIVE, 90), (FREE, 0)):
            self.refuse(NameTaken, "red", desk.book, "red", tour, start)
        desk.book("blue", FIVE, 20)
        self.refuse(NameTaken, "blue", desk.book, "blue", FIVE, 50)
        self.refuse(NameTaken, "red", desk.book, "red", FIVE, 50)
        desk.cancel("red")
        desk.book("red", FIVE, 50)
        self.assertEqual(list(desk), ["blue", "red"])

    def test_the_limit(self):
        for limit in (1, 2, 5, 8):
            desk = Desk(Day(100), ("a", 90, 10), limit=limit)
            for count in range(limit):
                self.assertEqual(len(desk), count)
                desk.book(f"g{count}", FIVE, 5 * count)
            # Also where the round does not fit, or a closing or a group is in the way.
            for start in (50, -1, 96, 90, 0):
                self.refuse(Full, limit, desk.book, "red", FIVE, start)
            desk.cancel("g0")
            desk.book("red", FIVE, 0)

    def test_what_does_not_fit(self):
        desk = Desk(Day(100), ("a", 95, 5))
        desk.book("red", FIVE, 0)
        # Also where a closing or a group is in the way.
        for tour, start in ((FIVE, -1), (FIVE, 96), (LOOSE, 84), (FREE, 100), (FREE, -1), (FIVE, -HUGE), (FIVE, HUGE)):
            self.refuse(NotFitting, None, desk.book, "blue", tour, start)
        desk.book("blue", LOOSE, 78)
        back = Round([("a", 2, 2), ("hall", 6, 6), ("a", 1, 1)])
        self.refuse(NotFitting, None, Desk(Ring(8)).book, "red", back, 0)
        self.refuse(NotFitting, None, Desk(Clock(5)).book, "red", back, 0)
        Desk(Ring(9)).book("red", back, 0)
        Desk(Clock(6)).book("red", back, -HUGE)

    def test_closings_in_the_way(self):
        desk = Desk(Day(100), ("c", 0, 90), ("a", 40, 5), ("b", 40, 5), ("a", 45, 5))
        desk.book("red", LOOSE, 0)
        for tour, start, place in ((FIVE, 36, 2), (FIVE, 44, 2), (FIVE, 45, 4), (FIVE, 49, 4), (LOOSE, 40, 2),
                                   (LOOSE, 44, 3), (LOOSE, 47, 4), (LOOSE, 28, 2), (LOOSE, 24, 2)):
            self.refuse(Closed, place, desk.book, "blue", tour, start)
        desk.book("blue", LOOSE, 23)
        desk.book("green", LOOSE, 48)
        self.assertEqual(desk["green"], 48)

    def test_a_closing_goes_ahead_of_a_group(self):
        desk = Desk(Day(100), ("b", 10, 5))
        desk.book("red", FIVE, 14)
        self.refuse(Closed, 1, desk.book, "blue", LOOSE, 10)
        self.refuse(Clash, "red", desk.book, "blue", LOOSE, 15)

    def test_groups_in_the_way(self):
        desk = Desk(Day(100))
        desk.book("zebra", FIVE, 50)
        desk.book("ant", FIVE, 45)
        # The first one in the order of booking, not of names or starts.
        self.refuse(Clash, "zebra", desk.book, "blue", Round([("a", 20, 20)]), 35)
        self.refuse(Clash, "ant", desk.book, "blue", FIVE, 45)
        self.refuse(Clash, "ant", desk.book, "blue", FIVE, 41)
        self.refuse(Clash, "zebra", desk.book, "blue", FIVE, 54)
        desk.book("blue", FIVE, 40)
        desk.book("green", FIVE, 55)

    def test_the_hall(self):
        desk = Desk(Day(10))
        for name in ("red", "blue", "green"):
            desk.book(name, Round([("hall", 10, 10)]), 0)
        self.assertEqual(len(desk), 3)

    def test_placed_starts(self):
        desk = Desk(Ring(10))
        desk.book("red", FIVE, -3)
        self.assertEqual(desk["red"], 7)
        self.refuse(Clash, "red", desk.book, "blue", FIVE, 41)
        desk.book("blue", FIVE, 1042)
        self.assertEqual(desk.groups(), [("red", FIVE, 7), ("blue", FIVE, 2)])
        other = Desk(Clock(10))
        other.book("red", FIVE, -30)
        other.book("blue", FIVE, 30)
        self.assertEqual(other.groups(), [("red", FIVE, -30), ("blue", FIVE, 30)])

    def test_large_numbers(self):
        wide = Round([("a", HUGE, 2 * HUGE)])
        for clock in (Clock(10 * HUGE), Day(10 * HUGE), Ring(10 * HUGE)):
            desk = Desk(clock, ("a", 2 * HUGE, HUGE), limit=3)
            self.refuse(Closed, 1, desk.book, "red", wide, 1)
            desk.book("red", wide, 0)
            self.refuse(Clash, "red", desk.close, "a", 2 * HUGE - 1, 1)
            desk.book("blue", wide, 3 * HUGE)
            self.refuse(Clash, "blue", desk.book, "green", wide, 5 * HUGE - 1)
            desk.book("green", wide, 5 * HUGE)
            self.assertEqual(len(desk), 3)


class BookAllTest(DeskTest):
    ROWS = [("red", FIVE, 0), ("blue", FIVE, 5), ("green", LOOSE, 40)]

    def test_one_deed(self):
        desk = Desk(Day(100))
        rows = list(self.ROWS)
        desk.book_all(rows)
        self.assertEqual(rows, self.ROWS)
        rows.clear()
        self.assertEqual(desk.groups(), self.ROWS)
        desk.undo()
        self.assertEqual(desk.groups(), [])
        self.refuse(NothingToUndo, None, desk.undo)
        desk.redo()
        self.assertEqual(desk.groups(), self.ROWS)
        self.refuse(NothingToRedo, None, desk.redo)

    def test_no_rows(self):
        desk = Desk(Day(100))
        self.assertIsNone(desk.book_all([]))
        self.refuse(NothingToUndo, None, desk.undo)
        desk.book("red", FIVE, 0)
        desk.undo()
        desk.book_all([])
        # It is no deed, so what was taken back can still be done again.
        desk.redo()
        self.assertEqual(desk.groups(), [("red", FIVE, 0)])

    def test_a_row_that_raises(self):
        wrong = ((("Red", FIVE, 60), BadName, "Red"), (("red", FIVE, 60), NameTaken, "red"),
                 (("x", FIVE, 96), NotFitting, None), (("x", FIVE, 91), Closed, 1), (("x", FIVE, 22), Clash, "gold"))
        for row, error, value in wrong:
            for place in range(4):
                desk = Desk(Day(100), ("a", 90, 10))
                desk.book("gold", FIVE, 20)
                desk.book("grey", FIVE, 30)
                desk.undo()
                rows = self.ROWS[:place] + [row] + self.ROWS[place:]
                self.refuse(error, value, desk.book_all, rows)
                desk.redo()
                self.assertEqual(len(desk), 2)
                desk.undo()
                desk.undo()
                self.assertEqual(desk.groups(), [])

    def test_rows_that_clash_with_each_other(self):
        desk = Desk(Day(100))
        self.refuse(Clash, "red", desk.book_all, [("red", FIVE, 0), ("blue", FIVE, 50), ("green", FIVE, 4)])
        self.refuse(NameTaken, "red", desk.book_all, [("red", FIVE, 0), ("red", FIVE, 50)])
        self.refuse(NothingToUndo, None, desk.undo)

    def test_more_rows_than_the_limit_lets(self):
        desk = Desk(Day(100), limit=2)
        self.refuse(Full, 2, desk.book_all, self.ROWS)
        desk.book_all(self.ROWS[:2])
        self.refuse(Full, 2, desk.book_all, self.ROWS[2:])
        desk.change_limit(3)
        desk.book_all(self.ROWS[2:])
        self.assertEqual(desk.groups(), self.ROWS)

    def test_placed_starts(self):
        desk = Desk(Ring(20))
        desk.book_all([("red", FIVE, -5), ("blue", FIVE, 60)])
        self.assertEqual(desk.groups(), [("red", FIVE, 15), ("blue", FIVE, 0)])


class ChangeTest(DeskTest):
    def made(self):
        desk = Desk(Day(100), ("a", 90, 10), limit=4)
        desk.book_all([("red", FIVE, 0), ("blue", FIVE, 10), ("green", FIVE, 20)])
        return desk

    def test_cancel(self):
        desk = self.made()
        desk.cancel("blue")
        self.assertEqual(desk.groups(), [("red", FIVE, 0), ("green", FIVE, 20)])
        desk.book("gold", FIVE, 10)
        self.assertEqual(list(desk), ["red", "green", "gold"])
        for name in ("blue", "", "Red", "hall", "a"):
            self.refuse(UnknownGroup, name, desk.cancel, name)

    def test_move(self):
        desk = self.made()
        desk.move("blue", 50)
        self.assertEqual(desk.groups(), [("red", FIVE, 0), ("blue", FIVE, 50), ("green", FIVE, 20)])
        # The group itself is not in its way.
        desk.move("blue", 52)
        desk.move("blue", 52)
        self.assertEqual(desk["blue"], 52)

    def test_moves_that_are_refused(self):
        desk = self.made()
        for name in ("gold", "", "Red"):
            for start in (-1, 0, 50, 90):
                self.refuse(UnknownGroup, name, desk.move, name, start)
        for start in (-1, 96, -HUGE, HUGE):
            # At 96 the closing would be in the way, too, and at -1 the first group.
            self.refuse(NotFitting, None, desk.move, "blue", start)
        for start in (86, 90, 95):
            self.refuse(Closed, 1, desk.move, "blue", start)
        for start, name in ((0, "red"), (4, "red"), (16, "green"), (24, "green")):
            self.refuse(Clash, name, desk.move, "blue", start)
        self.refuse(Clash, "blue", desk.move, "red", 10)

    def test_the_first_in_the_way(self):
        desk = Desk(Day(100), ("c", 0, 9), ("b", 30, 9), ("a", 40, 10))
        desk.book("red", LOOSE, 0)
        desk.book("blue", FIVE, 20)
        desk.book("green", FIVE, 25)
        self.refuse(Closed, 2, desk.move, "red", 27)
        self.refuse(Closed, 2, desk.move, "red", 30)
        self.refuse(Clash, "blue", desk.move, "red", 15)
        self.refuse(Clash, "green", desk.move, "red", 23)
        # A closing goes ahead of a group.
        self.refuse(Closed, 2, desk.move, "red", 26)

    def test_assigning_a_start(self):
        desk = self.made()
        desk["blue"] = 50
        self.assertEqual(desk.groups()[1], ("blue", FIVE, 50))
        for name, start, error, value in (("gold", 0, UnknownGroup, "gold"), ("blue", 96, NotFitting, None),
                                          ("blue", 90, Closed, 1), ("blue", 24, Clash, "green")):
            self.refuse(error, value, desk.__setitem__, name, start)
        desk.undo()
        self.assertEqual(desk["blue"], 10)
        desk.redo()
        self.assertEqual(desk["blue"], 50)

    def test_moves_on_a_ring(self):
        desk = Desk(Ring(20))
        desk.book("red", FIVE, 0)
        desk.book("blue", FIVE, 5)
        desk.move("red", -7)
        self.assertEqual(desk["red"], 13)
        desk["red"] = 75
        self.assertEqual(desk["red"], 15)
        self.refuse(Clash, "blue", desk.move, "red", 41)

    def test_change_limit(self):
        desk = self.made()
        for limit in (8, 3, 5, 4):
            desk.change_limit(limit)
            self.assertEqual(desk.limit, limit)
        for limit in (1, 2):
            self.refuse(TooFew, 3, desk.change_limit, limit)
        for limit in (0, 9, -1, HUGE, -HUGE):
            self.refuse(BadLimit, limit, desk.change_limit, limit)
        desk.change_limit(3)
        self.refuse(Full, 3, desk.book, "gold", FIVE, 50)

    def test_assigning_the_limit(self):
        desk = self.made()
        desk.limit = 3
        self.assertEqual(desk.limit, 3)
        for limit, error, value in ((2, TooFew, 3), (0, BadLimit, 0), (9, BadLimit, 9)):
            self.refuse(error, value, lambda: setattr(desk, "limit", limit))
            self.assertEqual(desk.limit, 3)
        desk.undo()
        self.assertEqual(desk.limit, 4)
        desk.redo()
        self.assertEqual(desk.limit, 3)


class ViewTest(DeskTest):
    def made(self):
        desk = Desk(Day(100), ("b", 0, 10))
        desk.book("red", FIVE, 7)
        desk.book("blue", LOOSE, 50)
        return desk

    def test_items(self):
        desk = self.made()
        self.assertEqual([desk["red"], desk["blue"]], [7, 50])
        for name in ("gold", "", "Red", "closing"):
            self.refuse(UnknownGroup, name, desk.__getitem__, name)
            self.refuse(UnknownGroup, name, desk.group, name)

    def test_names(self):
        desk = self.made()
        self.assertIs("red" in desk, True)
        self.assertIs("gold" in desk, False)
        self.assertIs("" in desk, False)
        self.assertEqual([len(desk), list(desk), [name for name in desk]], [2, ["red", "blue"], ["red", "blue"]])
        desk.cancel("red")
        self.assertIs("red" in desk, False)
        self.assertEqual([len(desk), list(desk)], [1, ["blue"]])
        desk.undo()
        self.assertEqual(list(desk), ["red", "blue"])

    def test_lists_are_new(self):
        desk = self.made()
        desk.groups().clear()
        desk.closings().clear()
        self.assertEqual([len(desk.groups()), len(desk.closings())], [2, 1])
        groups, closings = desk.groups(), desk.closings()
        desk.cancel("red")
        desk.close("c", 0, 5)
        self.assertEqual([len(groups), len(closings)], [2, 1])
        self.assertEqual([type(row) for row in groups + closings], [tuple] * 3)
        self.assertEqual([type(groups), type(closings)], [list, list])

    def test_a_group(self):
        desk = self.made()
        group = desk.group("blue")
        self.assertIs(type(group), Group)
        self.assertIsInstance(group, Named)
        self.assertIsInstance(group, Timed)
        self.assertEqual([group.name, group.tour, group.start], ["blue", LOOSE, 50])
        self.assertEqual(group.where(51), ["b", "hall"])
        desk.move("blue", 60)
        self.assertEqual([group.start, desk.group("blue").start], [50, 60])

    def test_a_group_that_was_changed(self):
        desk = self.made()
        group = desk.group("blue")
        group.start, group.name, group.tour = 3, "gold", FREE
        self.assertEqual(desk.groups(), [("red", FIVE, 7), ("blue", LOOSE, 50)])
        ring = Desk(Ring(100))
        ring.book("red", FIVE, -5)
        self.assertEqual(ring.group("red").start, 95)

    def test_deeds_return_nothing(self):
        desk = Desk(Day(100))
        self.assertIsNone(desk.book("red", FIVE, 0))
        self.assertIsNone(desk.book_all([("blue", FIVE, 10)]))
        self.assertIsNone(desk.move("red", 20))
        self.assertIsNone(desk.cancel("blue"))
        self.assertIsNone(desk.close("a", 0, 5))
        self.assertIsNone(desk.change_limit(5))
        self.assertIsNone(desk.undo())
        self.assertIsNone(desk.redo())

    def test_the_interface_stands_in_the_class_itself(self):
        names = ("__init__", "book", "book_all", "cancel", "move", "close", "change_limit", "undo", "redo", "limit",
                 "__getitem__", "__setitem__", "__contains__", "__len__", "__iter__", "groups", "closings", "group",
                 "safe_starts", "run")
        for name in names:
            self.assertIn(name, vars(Desk))


if __name__ == "__main__":
    unittest.main()
