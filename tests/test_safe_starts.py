"""Safe starts and runs at a desk: point 42."""

import random
import unittest
from itertools import product

from counting import TOURS, all_lengths, counted_run, counted_waits, spans_of
from desks import PlainDesk
from large import HUGE, LONG, NARROW, OTHER, STEEP
from neverrounds.clocks import Clock, Day, Ring
from neverrounds.desk import Desk
from neverrounds.errors import BadLengths, Clash, Closed, NotFitting, Refused, UnknownGroup
from neverrounds.house import Run
from neverrounds.moments import Moments
from neverrounds.rounds import Round

FIVE = Round([("a", 5, 5)])
CLOCKS = {"clock": Clock, "day": Day, "ring": Ring}


def copy_of(desk):
    """Another desk with the same closings and groups, and with room for one more group."""
    other = Desk(desk.clock, *desk.closings())
    other.book_all(desk.groups())
    return other


class SafeStartsTest(unittest.TestCase):
    def can_book(self, desk, tour, start):
        """Tell whether a copy of the desk takes one more group."""
        other = copy_of(desk)
        try:
            other.book("onemore", tour, start)
        except (NotFitting, Closed, Clash):
            return False
        return True

    def check_edges(self, desk, tour):
        """One before, at and one beyond each end, and the ends of the clock, against book on a copy."""
        found = desk.safe_starts(tour)
        last = desk.clock.length - 1
        ends = {end + step for span in found.spans for end in span for step in (-1, 0, 1)} | {0, 1, last - 1, last}
        for start in sorted(ends):
            if 0 <= start <= last:
                self.assertEqual(start in found, self.can_book(desk, tour, start), start)
        self.assertEqual(found.clipped(0, last), found)
        return found

    def check(self, desk, tour, spans):
        self.assertIs(type(desk.safe_starts(tour)), Moments)
        self.assertEqual(desk.safe_starts(tour).spans, spans)
        self.check_edges(desk, tour)

    def test_an_empty_desk(self):
        tour = Round([("a", 2, 5), ("b", 1, 3)])
        self.check(Desk(Clock(60)), tour, [(0, 59)])
        self.check(Desk(Ring(60)), tour, [(0, 59)])
        self.check(Desk(Day(60)), tour, [(0, 52)])
        self.check(Desk(Day(8)), tour, [(0, 0)])
        self.check(Desk(Day(1)), Round([("a", 1, 1)]), [(0, 0)])

    def test_a_round_that_does_not_fit(self):
        tour = Round([("a", 2, 5), ("hall", 2, 2), ("a", 1, 3)])
        self.check(Desk(Day(9)), tour, [])
        self.check(Desk(Day(4)), tour, [])
        self.check(Desk(Clock(4)), tour, [])
        self.check(Desk(Ring(9)), tour, [])
        self.check(Desk(Ring(10)), tour, [(0, 9)])
        self.check(Desk(Clock(5)), tour, [(0, 4)])
        self.check(Desk(Day(9), ("a", 0, 1)), tour, [])

    def test_a_closing_and_a_group(self):
        for word, spans in (("clock", [(0, 15), (25, 35), (45, 59)]), ("day", [(0, 15), (25, 35), (45, 55)]),
                            ("ring", [(0, 15), (25, 35), (45, 59)])):
            desk = Desk(CLOCKS[word](60), ("a", 20, 5))
            desk.book("red", FIVE, 40)
            self.check(desk, FIVE, spans)
            self.check(desk, Round([("b", 5, 5)]), [(0, spans[-1][1])])
            self.check(desk, Round([("hall", 5, 5)]), [(0, spans[-1][1])])

    def test_the_example(self):
        desk = Desk(Day(60))
        desk.book("red", Round([("east", 10, 12), ("west", 5, 8)]), 0)
        self.check(desk, Round([("west", 3, 4)]), [(0, 6), (20, 56)])

    def test_once_around_the_ring(self):
        desk = Desk(Ring(60), ("a", 58, 4))
        desk.book("red", FIVE, 30)
        self.check(desk, FIVE, [(2, 25), (35, 53)])
        self.check(Desk(Day(60), ("a", 56, 4)), FIVE, [(0, 51)])
        self.check(Desk(Clock(60), ("a", 58, 4), ("a", -10, 11)), FIVE, [(1, 53)])
        self.check(Desk(Clock(60), ("a", -10, 5), ("a", 70, 10)), FIVE, [(0, 59)])

    def test_nothing_is_safe(self):
        for kind in CLOCKS.values():
            self.check(Desk(kind(60), ("a", 0, 60)), FIVE, [])
            self.check(Desk(kind(8), ("a", 4, 1)), FIVE, [] if kind is Day else [(5, 7)])
        desk = Desk(Ring(10))
        desk.book("red", Round([("a", 6, 6)]), 0)
        self.check(desk, FIVE, [])
        self.check(desk, Round([("a", 4, 4)]), [(6, 6)])

    def test_where_the_limit_is_reached(self):
        desk = Desk(Day(60), limit=1)
        desk.book("red", FIVE, 20)
        self.check(desk, FIVE, [(0, 15), (25, 55)])
        full = Desk(Day(60))
        full.book_all([(f"g{k}", FIVE, 5 * k) for k in range(8)])
        self.assertEqual(full.safe_starts(FIVE).spans, [(40, 55)])

    def test_after_deeds(self):
        desk = Desk(Day(60))
        desk.book("red", FIVE, 20)
        desk.undo()
        self.check(desk, FIVE, [(0, 55)])
        desk.redo()
        desk.move("red", 0)
        self.check(desk, FIVE, [(5, 55)])
        desk.cancel("red")
        self.check(desk, FIVE, [(0, 55)])

    def test_against_every_start(self):
        chance = random.Random(3)
        for word, seed in product(CLOCKS, range(25)):
            length = chance.randint(8, 45)
            desk, plain = Desk(CLOCKS[word](length)), PlainDesk(word, length)
            for k in range(6):
                stays, start = chance.choice(TOURS[:9]), chance.randint(-5, 40)
                try:
                    if k < 2:
                        desk.close("abc"[k], start, 1 + k)
                        plain.close("abc"[k], start, 1 + k)
                    else:
                        desk.book(f"g{k}", Round(stays), start)
                        plain.book(f"g{k}", stays, start)
                except Refused:
                    continue
            for stays in TOURS[:10]:
                with self.subTest(word=word, length=length, stays=stays):
                    self.assertEqual(desk.safe_starts(Round(stays)).spans, spans_of(plain.safe_starts(stays)))

    def test_large_numbers(self):
        for kind in CLOCKS.values():
            desk = Desk(kind(200 * HUGE), ("a", 3 * HUGE, HUGE), ("c", 150 * HUGE, 7))
            desk.book("red", LONG, 10 * HUGE)
            desk.book("blue", OTHER, 30 * HUGE)
            desk.book("green", STEEP, 50 * HUGE)
            for tour in (LONG, OTHER, STEEP, NARROW):
                self.assertGreater(len(self.check_edges(desk, tour)), 1)


class RunTest(unittest.TestCase):
    def check(self, desk, lengths, groups):
        """The walks are those of a house with the closings first, and nobody waits."""
        found = desk.run(lengths)
        rows = [[minutes] for _, _, minutes in desk.closings()] + [lengths[name] for name in desk]
        self.assertIs(type(found), Run)
        self.assertEqual(found.walks, counted_run(groups, rows))
        self.assertEqual(counted_waits(groups, found.walks), [])
        self.assertEqual(found.waits, [])

    def made(self):
        desk = Desk(Day(60), ("a", 20, 5), ("b", 0, 3))
        desk.book("red", Round([("a", 2, 4), ("b", 1, 2)]), 5)
        desk.book("blue", Round([("b", 1, 5)]), 30)
        groups = [("closing", [("a", 5, 5)], 20), ("closing", [("b", 3, 3)], 0),
                  ("red", [("a", 2, 4), ("b", 1, 2)], 5), ("blue", [("b", 1, 5)], 30)]
        return desk, groups

    def test_all_lengths(self):
        desk, groups = self.made()
        for red in all_lengths(groups[2][1]):
            for blue in all_lengths(groups[3][1]):
                self.check(desk, {"red": red, "blue": blue}, groups)

    def test_the_walks(self):
        desk, _ = self.made()
        found = desk.run({"red": [3, 2], "blue": [4]})
        self.assertEqual(found.walks, [[("a", 20, 20, 25)], [("b", 0, 0, 3)], [("a", 5, 5, 8), ("b", 8, 8, 10)],
                                       [("b", 30, 30, 34)]])

    def test_other_keys_are_ignored(self):
        desk, groups = self.made()
        self.check(desk, {"gold": [], "blue": [5], "closing": [99], "red": [2, 1], "a": None}, groups)

    def test_no_groups(self):
        self.assertEqual([Desk(Day(60)).run({}).walks, Desk(Day(60)).run({}).waits], [[], []])
        self.assertEqual(Desk(Day(60), ("a", 3, 4)).run({"red": [1]}).walks, [[("a", 3, 3, 7)]])

    def test_a_group_that_the_dict_lacks(self):
        desk, _ = self.made()
        for lengths, name in (({}, "red"), ({"blue": [1]}, "red"), ({"red": [2, 1]}, "blue"),
                              ({"red": [99]}, "blue"), ({"gold": [2, 1]}, "red")):
            with self.assertRaises(UnknownGroup) as caught:
                desk.run(lengths)
            self.assertIs(type(caught.exception), UnknownGroup)
            self.assertEqual(caught.exception.name, name)

    def test_lengths_that_do_not_fit(self):
        desk, _ = self.made()
        for red, blue, step in (([], [1], 0), ([2], [1], 0), ([2, 1, 1], [1], 0), ([1, 1], [1], 1), ([2, 3], [1], 2),
                                ([5, 3], [], 1), ([2, 1], [], 0), ([2, 1], [6], 1), ([2, 3], [], 2)):
            with self.assertRaises(BadLengths) as caught:
                desk.run({"blue": blue, "red": red})
            self.assertEqual(caught.exception.step, step)

    def test_the_lists_stay_as_they_are(self):
        desk, groups = self.made()
        lengths = {"red": [3, 1], "blue": [2]}
        found = desk.run(lengths)
        self.assertEqual(lengths, {"red": [3, 1], "blue": [2]})
        found.walks.clear()
        self.check(desk, lengths, groups)
        self.assertEqual(len(desk.groups()), 2)

    def test_on_a_ring_each_group_runs_once(self):
        desk = Desk(Ring(10), ("a", -1, 2))
        desk.book("red", Round([("a", 3, 3), ("hall", 8, 8), ("b", 1, 2)]), 11)
        self.assertEqual(desk.run({"red": [3, 8, 2]}).walks,
                         [[("a", 9, 9, 11)], [("a", 1, 1, 4), ("hall", 4, 4, 12), ("b", 12, 12, 14)]])

    def test_as_many_as_a_desk_takes(self):
        desk = Desk(Day(100), *[(room, 0, 10) for room in "abcdef"])
        desk.book_all([(f"g{k}", FIVE, 10 + 5 * k) for k in range(8)])
        found = desk.run({f"g{k}": [5] for k in range(8)})
        self.assertEqual([len(found.walks), found.waits], [14, []])

    def test_nobody_waits_at_any_desk(self):
        chance = random.Random(4)
        for kind in CLOCKS.values():
            for _ in range(30):
                desk = Desk(kind(30), ("a", 4, 2))
                for k in range(5):
                    try:
                        desk.book(f"g{k}", Round(chance.choice(TOURS)), chance.randint(0, 29))
                    except Refused:
                        continue
                lengths = {name: [chance.randint(least, most) for _, least, most in tour.stays]
                           for name, tour, _ in desk.groups()}
                groups = [("closing", [("a", 2, 2)], 4)] + [(name, tour.stays, start)
                                                            for name, tour, start in desk.groups()]
                self.check(desk, lengths, groups)

    def test_large_numbers(self):
        desk = Desk(Ring(200 * HUGE), ("a", 3 * HUGE, HUGE))
        desk.book("red", LONG, -10 * HUGE)
        found = desk.run({"red": [2 * HUGE, HUGE, 5, 1, HUGE, 9]})
        self.assertEqual([len(found.walks), found.waits], [2, []])
        self.assertEqual(found.walks[1][0], ("a", 190 * HUGE, 190 * HUGE, 192 * HUGE))


if __name__ == "__main__":
    unittest.main()
