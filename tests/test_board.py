"""The board: point 52."""

import unittest

from large import HUGE
from neverrounds.board import board
from neverrounds.clocks import Clock, Day, Ring
from neverrounds.desk import Desk
from neverrounds.rounds import Round

TOUR = Round([("a", 3, 5), ("hall", 1, 2)])
FREE = Round([("hall", 1, 1)])


class BoardTest(unittest.TestCase):
    def test_no_group(self):
        for clock in (Clock(60), Day(60), Ring(60)):
            self.assertEqual(board(Desk(clock, ("a", 0, 5))), [])

    def test_the_order_of_booking(self):
        desk = Desk(Day(60))
        desk.book("zebra", TOUR, 30)
        desk.book("ant", TOUR, 0)
        desk.book("bee", FREE, 5)
        lines = ["zebra                          30                   37",
                 "ant                             0                    7",
                 "bee                             5                    6"]
        self.assertEqual(board(desk), lines)
        self.assertIs(type(board(desk)), list)
        desk.move("zebra", 20)
        self.assertEqual([line.split() for line in board(desk)],
                         [["zebra", "20", "27"], ["ant", "0", "7"], ["bee", "5", "6"]])
        self.assertEqual(len(desk), 3)

    def test_the_columns(self):
        for name in ("a", "ab", "abcdefghijk", "abcdefghijkl"):
            for start in (0, 7, -7, 10 ** 19 - 8, -10 ** 18, 12345678901234567890 - 8):
                desk = Desk(Clock(60))
                desk.book(name, TOUR, start)
                [line] = board(desk)
                self.assertEqual(len(line), 12 + 1 + 20 + 1 + 20)
                self.assertEqual([line[12], line[33]], [" ", " "])
                self.assertEqual(line[:12].rstrip(" "), name)
                self.assertEqual(line[13:33].lstrip(" "), str(start))
                self.assertEqual(line[34:].lstrip(" "), str(start + 7))

    def test_longer_numbers(self):
        for start, line in ((10 ** 20 - 8, "red          " + "9" * 19 + "2 " + "9" * 20),
                            (10 ** 20 - 7, "red          " + "9" * 19 + "3 1" + "0" * 20),
                            (10 ** 20, "red          1" + "0" * 20 + " 1" + "0" * 19 + "7"),
                            (-10 ** 19, "red          -1" + "0" * 19 + " -" + "9" * 18 + "3"),
                            (-10 ** 20, "red          -1" + "0" * 20 + " -" + "9" * 19 + "3"),
                            (10 ** 59, "red          1" + "0" * 59 + " 1" + "0" * 58 + "7")):
            desk = Desk(Clock(60))
            desk.book("red", TOUR, start)
            self.assertEqual(board(desk), [line])

    def test_starts_on_a_ring(self):
        desk = Desk(Ring(60))
        desk.book("red", TOUR, -1)
        self.assertEqual(board(desk)[0].split(), ["red", "59", "66"])

    def test_lists_are_new(self):
        desk = Desk(Day(60))
        desk.book("red", TOUR, 0)
        board(desk).clear()
        self.assertEqual(len(board(desk)), 1)

    def test_the_longest_way_home(self):
        desk = Desk(Day(10 * HUGE))
        desk.book("red", Round([("a", 1, HUGE), ("hall", 1, 1), ("b", 2, HUGE)]), 3)
        self.assertEqual(board(desk)[0].split(), ["red", "3", str(2 * HUGE + 4)])


if __name__ == "__main__":
    unittest.main()
