"""Groups and closings: point 43 without the desk."""

import unittest

from counting import TOURS, all_steps
from large import HUGE, LONG
from neverrounds.errors import BadName, BadStay
from neverrounds.placing import Closing, Group, Named, Timed
from neverrounds.rounds import HALL, Round

WRONG_NAMES = ("", "1", "9lives", "Red", "rEd", "red blue", "red-1", "_red", "abcdefghijklm", "\u00e4rger", "r\u00e4d",
               "\u03b1", "a\u0661", " red", "red ", "red\n")
RIGHT_NAMES = ("a", "z9", "hall", "abcdefghijkl", "a23456789012", "red")
TOUR = Round([("east", 10, 12), ("hall", 2, 3), ("east", 1, 4)])


class NamedTest(unittest.TestCase):
    def test_names(self):
        for name in RIGHT_NAMES:
            self.assertEqual(Named(name).name, name)
            self.assertEqual(Group(name, TOUR, 5).name, name)

    def test_wrong_names(self):
        for name in WRONG_NAMES:
            for made in (lambda: Named(name), lambda: Group(name, TOUR, 5)):
                with self.assertRaises(BadName) as caught:
                    made()
                self.assertIs(type(caught.exception), BadName)
                self.assertEqual(caught.exception.name, name)

    def test_the_kinds(self):
        self.assertEqual(Group.__bases__, (Named, Timed))
        self.assertEqual(Closing.__bases__, (Timed,))
        self.assertIn("where", vars(Timed))
        group, closing = Group("red", TOUR, 5), Closing("east", 5, 3)
        self.assertIsInstance(group, Named)
        self.assertIsInstance(group, Timed)
        self.assertIsInstance(closing, Timed)
        self.assertNotIsInstance(closing, Named)

    def test_attributes(self):
        group = Group("red", TOUR, -5)
        self.assertEqual([group.name, group.tour, group.start], ["red", TOUR, -5])
        timed = Timed(TOUR, HUGE)
        self.assertEqual([timed.tour, timed.start], [TOUR, HUGE])


class WhereTest(unittest.TestCase):
    def check(self, stays, start, moment, rooms):
        with self.subTest(stays=stays, start=start, moment=moment):
            found = Timed(Round(stays), start).where(moment)
            self.assertEqual(found, rooms)
            self.assertIs(type(found), list)
            self.assertEqual(Group("red", Round(stays), start).where(moment), rooms)

    def test_before_at_and_after(self):
        for start in (0, 7, -7, HUGE, -HUGE):
            for minute, rooms in ((-1, []), (0, ["a"]), (3, ["a"]), (4, ["a"]), (5, []), (100, [])):
                self.check([("a", 1, 5)], start, start + minute, rooms)

    def test_windows_that_overlap(self):
        stays = [("a", 2, 4), ("b", 1, 3), ("hall", 2, 5)]
        rooms = [["a"], ["a"], ["a", "b"], ["a", "b", "hall"], ["b", "hall"], ["b", "hall"], ["b", "hall"],
                 ["hall"], ["hall"], ["hall"], ["hall"], ["hall"], [], []]
        for moment, here in enumerate(rooms):
            self.check(stays, 0, moment, here)
            self.check(stays, -20, moment - 20, here)
        self.check(stays, 0, -1, [])

    def test_no_room_twice(self):
        stays = [("a", 1, 3), ("a", 1, 3), ("hall", 1, 3), ("hall", 1, 3), ("a", 1, 3)]
        for moment, here in enumerate([["a"], ["a"], ["a", "hall"], ["a", "hall"], ["a", "hall"], ["a", "hall"]]):
            self.check(stays, 0, moment, here)
        for moment in (9, 11):
            self.check(stays, 0, moment, ["hall", "a"])
        for moment in (12, 14):
            self.check(stays, 0, moment, ["a"])
        self.check(stays, 0, 15, [])

    def test_the_first_step_that_can_be_meant(self):
        # At 5 the group can be in b and in the last step, but no longer in the first one.
        stays = [("a", 1, 2), ("b", 1, 4), ("a", 1, 9)]
        self.check(stays, 0, 1, ["a", "b"])
        self.check(stays, 0, 2, ["b", "a"])
        self.check(stays, 0, 5, ["b", "a"])
        self.check(stays, 0, 6, ["a"])

    def test_against_all_lengths(self):
        for stays in TOURS:
            for start in (0, -4):
                ways = all_steps(stays, start)
                for moment in range(start - 2, start + 25):
                    steps = sorted({step for way in ways for step, (_, enter, leave) in enumerate(way)
                                    if enter <= moment < leave})
                    self.check(stays, start, moment, list(dict.fromkeys([stays[step][0] for step in steps])))

    def test_large_numbers(self):
        timed = Timed(LONG, -HUGE)
        self.assertEqual(timed.where(-HUGE - 1), [])
        self.assertEqual(timed.where(-1), ["a"])
        self.assertEqual(timed.where(0), ["a", "b"])
        self.assertEqual(timed.where(1), ["a", "b"])
        self.assertEqual(timed.where(-HUGE + LONG.longest - 1), ["a"])
        self.assertEqual(timed.where(-HUGE + LONG.longest), [])

    def test_lists_are_new(self):
        timed = Timed(TOUR, 0)
        timed.where(0).clear()
        self.assertEqual(timed.where(0), ["east"])


class ClosingTest(unittest.TestCase):
    def test_attributes(self):
        for room in ("east", HALL, "abcdefghijkl"):
            for start in (0, -7, HUGE):
                for minutes in (1, 30, HUGE):
                    closing = Closing(room, start, minutes)
                    self.assertEqual([closing.room, closing.start, closing.minutes], [room, start, minutes])
                    self.assertEqual(closing.tour, Round([(room, minutes, minutes)]))

    def test_where(self):
        for room in ("east", HALL):
            closing = Closing(room, 5, 3)
            self.assertEqual([closing.where(moment) for moment in (4, 5, 7, 8)], [[], [room], [room], []])

    def test_wrong_rooms(self):
        for room in WRONG_NAMES:
            for minutes in (3, 0):
                with self.assertRaises(BadName) as caught:
                    Closing(room, 5, minutes)
                self.assertIs(type(caught.exception), BadName)
                self.assertEqual(caught.exception.name, room)

    def test_wrong_minutes(self):
        for minutes in (0, -1, -HUGE):
            for room in ("east", HALL):
                with self.assertRaises(BadStay) as caught:
                    Closing(room, 5, minutes)
                self.assertIs(type(caught.exception), BadStay)
                self.assertEqual(caught.exception.step, 1)


if __name__ == "__main__":
    unittest.main()
