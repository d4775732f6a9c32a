"""Certificates, also such as are made by hand: point 21, with points 11 to 13 and 16 to 18."""

import unittest

from counting import TOURS, all_lengths, all_steps, counted_trap, counted_words, members, places, steps_of
from neverrounds.certificates import Alibi, Avoidance, Certificate, Meeting, Trap
from neverrounds.moments import Moments
from neverrounds.rounds import Round
from neverrounds.stairs import reach_sets

HUGE = 10 ** 54 + 98765432109876543210
FIRST = Round([("east", 10, 12), ("west", 5, 8)])
SECOND = Round([("west", 3, 4)])
HALLS = Round([("hall", 2, 3), ("a", 2, 4), ("b", 1, 1), ("a", 1, 2)])
OTHER = Round([("a", 3, 3), ("c", 1, 2), ("hall", 2, 2), ("a", 2, 5)])


def near_lengths(stays):
    """Every list of lengths that fits some stays or is off by one at one or more of them."""
    return all_lengths([(room, least - 1, most + 1) for room, least, most in stays])


class CertificateTest(unittest.TestCase):
    def test_the_base_class(self):
        certificate = Certificate(FIRST, SECOND, 9)
        self.assertEqual([certificate.first, certificate.second, certificate.apart], [FIRST, SECOND, 9])
        self.assertIs(certificate.holds(), True)
        self.assertIs(Certificate(SECOND, FIRST, -HUGE).holds(), True)

    def test_the_kinds(self):
        for kind in (Meeting, Alibi, Avoidance, Trap):
            self.assertIs(issubclass(kind, Certificate), True)
            self.assertIn("holds", vars(kind))

    def test_attributes(self):
        one = Meeting(FIRST, SECOND, 9, [10, 5], [3], "west", 10)
        self.assertEqual([one.first, one.second, one.apart], [FIRST, SECOND, 9])
        self.assertEqual([one.first_lengths, one.second_lengths, one.room, one.moment], [[10, 5], [3], "west", 10])
        two = Avoidance(FIRST, SECOND, 9, [12, 5], [3])
        self.assertEqual([two.first, two.second, two.apart], [FIRST, SECOND, 9])
        self.assertEqual([two.first_lengths, two.second_lengths], [[12, 5], [3]])
        rows = [("west", Moments.span(1, 2), Moments.none())]
        three = Alibi(FIRST, SECOND, -4, rows)
        self.assertEqual([three.first, three.second, three.apart, three.rows], [FIRST, SECOND, -4, rows])
        cells = [(2, 1, Moments.span(0, 2))]
        four = Trap(FIRST, SECOND, 12, cells)
        self.assertEqual([four.first, four.second, four.apart, four.cells], [FIRST, SECOND, 12, cells])

    def test_lists_are_copied(self):
        lengths, others = [10, 5], [3]
        one = Meeting(FIRST, SECOND, 9, lengths, others, "west", 10)
        two = Avoidance(FIRST, SECOND, 20, lengths, others)
        rows = [("west", FIRST(0)["west"], SECOND(30)["west"])]
        three = Alibi(FIRST, SECOND, 30, rows)
        cells = [(2, 1, Moments.span(0, 2))]
        four = Trap(FIRST, SECOND, 12, cells)
        for each in (lengths, others, rows, cells):
            each.clear()
        for certificate in (one, two, three, four):
            self.assertIs(certificate.holds(), True)
        self.assertEqual([one.first_lengths, one.second_lengths], [[10, 5], [3]])

    def test_holding_changes_nothing(self):
        one = Meeting(FIRST, SECOND, 9, [10, 5, 1], [3], "west", 10)
        cells = [(1, 1, Moments.span(11, 11)), (2, 1, Moments.span(-1, 1))]
        two = Trap(FIRST, SECOND, 11, cells)
        rows = [("west", Moments.none(), Moments.none())]
        three = Alibi(FIRST, SECOND, 30, rows)
        self.assertEqual([each.holds() for each in (one, two, three) * 2], [False, True, False] * 2)
        self.assertEqual([one.first_lengths, one.second_lengths], [[10, 5, 1], [3]])
        self.assertEqual([two.cells, three.rows], [cells, rows])


class MeetingTest(unittest.TestCase):
    def check(self, holds, apart, first_lengths, second_lengths, room, moment):
        certificate = Meeting(HALLS, OTHER, apart, first_lengths, second_lengths, room, moment)
        with self.subTest(apart=apart, lengths=(first_lengths, second_lengths), room=room, moment=moment):
            self.assertIs(certificate.holds(), holds)

    def test_moments(self):
        # The first group is in a from 2 to 5 and from 7 to 8, the second one from 4 to 6 and from 10 to 12.
        for moment in (-1, 0, 1, 2, 3, 4, 5, 6, 7, 8, 9, 10, 11, 12, 13, HUGE, -HUGE):
            self.check(moment in (4, 5), 4, [2, 4, 1, 2], [3, 1, 2, 2], "a", moment)
        # The second one is in a from -1 to 1 and from 5 to 9.
        for moment in range(-2, 11):
            self.check(moment in (5, 7, 8), -1, [2, 4, 1, 2], [3, 1, 2, 5], "a", moment)
        # Both are in a room at some moments, but not in this room both.
        for moment in range(-2, 11):
            self.check(False, -1, [2, 4, 1, 2], [3, 1, 2, 5], "b", moment)
            self.check(False, -1, [2, 4, 1, 2], [3, 1, 2, 5], "c", moment)

    def test_entering_leaving_and_being_home(self):
        for moment, holds in ((9, False), (10, True), (11, True), (12, False), (13, False)):
            self.assertIs(Meeting(FIRST, SECOND, 9, [10, 5], [3], "west", moment).holds(), holds)
        for moment, holds in ((12, False), (13, True), (14, True), (15, False), (16, False)):
            self.assertIs(Meeting(FIRST, SECOND, 13, [10, 5], [4], "west", moment).holds(), holds)
        tour = Round([("a", 3, 3)])
        for moment, holds in ((-1, False), (0, True), (2, True), (3, False)):
            self.assertIs(Meeting(tour, tour, 0, [3], [3], "a", moment).holds(), holds)

    def test_the_hall_and_other_rooms(self):
        tour = Round([("hall", 5, 5)])
        self.assertIs(Meeting(tour, tour, 0, [5], [5], "hall", 2).holds(), False)
        self.check(False, -5, [2, 2, 1, 1], [3, 1, 2, 2], "hall", 0)
        for room in ("north", "east", "b", "hall"):
            for moment in (9, 10, 11, 12):
                self.assertIs(Meeting(FIRST, SECOND, 9, [10, 5], [3], room, moment).holds(), False)

    def test_wrong_lists(self):
        for first_lengths in ([], [10], [10, 5, 5], [9, 5], [13, 5], [10, 4], [10, 9], [-10, 5], [HUGE, 5]):
            self.assertIs(Meeting(FIRST, SECOND, 9, first_lengths, [3], "west", 10).holds(), False)
            self.assertIs(Meeting(SECOND, FIRST, -9, [3], first_lengths, "west", 1).holds(), False)
        for lengths in ([], [2], [5], [3, 3], [-3], [HUGE]):
            self.assertIs(Meeting(FIRST, SECOND, 9, [10, 5], lengths, "west", 10).holds(), False)
            self.assertIs(Meeting(SECOND, FIRST, -9, lengths, [10, 5], "west", 1).holds(), False)
        for first_lengths in ([10, 5], [10, 8], [11, 5], [11, 8]):
            for lengths in ([3], [4]):
                self.assertIs(Meeting(FIRST, SECOND, 9, first_lengths, lengths, "west", 11).holds(), True)
                self.assertIs(Meeting(SECOND, FIRST, -9, lengths, first_lengths, "west", 2).holds(), True)
        self.assertIs(Meeting(FIRST, SECOND, 9, [], [], "west", 10).holds(), False)

    def test_lag(self):
        for first_lengths, second_lengths, lag in (([10, 5], [3], 0), ([12, 5], [3], 2), ([10, 8], [3], 3),
                                                   ([12, 8], [4], 6), ([10, 5], [4], 1)):
            certificate = Meeting(FIRST, SECOND, 9, first_lengths, second_lengths, "west", 0)
            self.assertEqual(certificate.lag, lag)
            self.assertIs(type(certificate.lag), int)
        tour = Round([("a", 3, HUGE), ("b", 1, HUGE)])
        self.assertEqual(Meeting(tour, tour, 0, [HUGE, 1], [3, HUGE], "a", 0).lag, 2 * HUGE - 4)

    def test_against_all_lengths(self):
        first, second = [("a", 1, 2), ("hall", 2, 2), ("b", 1, 2)], [("b", 2, 3), ("a", 1, 1), ("hall", 1, 1)]
        one, other = Round(first), Round(second)
        for apart in (-4, -1, 0, 2, 3):
            for first_lengths in near_lengths(first):
                for second_lengths in near_lengths(second):
                    both = set()
                    if first_lengths in all_lengths(first) and second_lengths in all_lengths(second):
                        both = (places(steps_of(first, 0, first_lengths)) &
                                places(steps_of(second, apart, second_lengths)))
                    for room in ("a", "b", "hall"):
                        found = {moment for moment in range(-5, 9) if Meeting(
                            one, other, apart, first_lengths, second_lengths, room, moment).holds()}
                        self.assertEqual(found, {moment for moment, place in both if place == room})


class AvoidanceTest(unittest.TestCase):
    def check(self, holds, first, second, apart, first_lengths, second_lengths):
        with self.subTest(apart=apart, lengths=(first_lengths, second_lengths)):
            self.assertIs(Avoidance(first, second, apart, first_lengths, second_lengths).holds(), holds)
            self.assertIs(Avoidance(second, first, -apart, second_lengths, first_lengths).holds(), holds)

    def test_walks_that_touch_or_share_a_moment(self):
        for apart, holds in ((7, True), (8, False), (14, False), (15, True), (16, True), (-HUGE, True), (HUGE, True)):
            self.check(holds, FIRST, SECOND, apart, [10, 5], [3])
        self.check(True, FIRST, SECOND, 9, [12, 5], [3])
        self.check(False, FIRST, SECOND, 9, [12, 5], [4])
        self.check(False, FIRST, SECOND, 9, [11, 5], [3])

    def test_the_hall_only(self):
        tour = Round([("hall", 5, 5)])
        self.check(True, tour, tour, 0, [5], [5])
        self.check(True, tour, tour, 2, [5], [5])
        self.check(True, tour + Round([("a", 1, 1)]), tour, 0, [5, 1], [5])

    def test_wrong_lists(self):
        for lengths in ([], [12], [12, 5, 5], [9, 5], [13, 5], [12, 4], [12, 9], [12, -5], [-HUGE, 5]):
            self.check(False, FIRST, SECOND, 9, lengths, [3])
            self.check(False, FIRST, SECOND, HUGE, lengths, [3])
        for lengths in ([], [2], [5], [3, 3], [-3], [HUGE]):
            self.check(False, FIRST, SECOND, 9, [12, 5], lengths)
            self.check(False, FIRST, SECOND, HUGE, [12, 5], lengths)
        self.check(False, FIRST, SECOND, HUGE, [], [])
        for lengths in ([10, 5], [12, 8]):
            for others in ([3], [4]):
                self.check(True, FIRST, SECOND, HUGE, lengths, others)

    def test_against_all_lengths(self):
        first, second = [("a", 1, 2), ("hall", 2, 2), ("b", 1, 2)], [("b", 2, 3), ("a", 1, 1), ("hall", 1, 1)]
        for apart in range(-5, 6):
            for one in near_lengths(first):
                for other in near_lengths(second):
                    holds = one in all_lengths(first) and other in all_lengths(second) and not (
                        places(steps_of(first, 0, one)) & places(steps_of(second, apart, other)))
                    self.assertIs(Avoidance(Round(first), Round(second), apart, one, other).holds(), holds)


class AlibiTest(unittest.TestCase):
    ONE = Round([("b", 2, 3), ("hall", 1, 1), ("a", 1, 2), ("b", 1, 1), ("c", 1, 1)])
    TWO = Round([("d", 1, 1), ("a", 1, 1), ("b", 2, 2), ("hall", 9, 9)])

    def check(self, holds, rows, apart=20):
        with self.subTest(rows=[(room, one.spans, other.spans) for room, one, other in rows], apart=apart):
            self.assertIs(Alibi(self.ONE, self.TWO, apart, rows).holds(), holds)

    def rows(self, apart=20):
        return [("b", Moments([(0, 2), (4, 6)]), Moments.span(apart + 2, apart + 3)),
                ("a", Moments.span(3, 5), Moments.span(apart + 1, apart + 1))]

    def test_right_rows(self):
        for apart in (20, 5, -5, -20, HUGE, -HUGE):
            self.check(True, self.rows(apart), apart)

    def test_moments_in_common(self):
        first, second = counted_words(self.ONE.stays, self.TWO.stays)
        for apart in range(-10, 12):
            self.check(apart not in first, self.rows(apart), apart)
        # In b only, then in a only.
        self.check(False, self.rows(-2), -2)
        self.assertIs(Alibi(Round([("a", 1, 1), ("b", 1, 1)]), Round([("a", 1, 1)]), 0,
                            [("a", Moments.span(0, 0), Moments.span(0, 0))]).holds(), False)

    def test_rows_that_are_wrong_as_rows(self):
        one, two = self.rows()
        self.check(False, [])
        self.check(False, [one])
        self.check(False, [two])
        self.check(False, [two, one])
        self.check(False, [one, two, one])
        self.check(False, [one, one, two])
        self.check(False, [one, two, two])
        self.check(False, [one, two, ("hall", Moments.span(2, 3), Moments.span(24, 32))])
        self.check(False, [one, two, ("c", Moments.span(5, 6), Moments.none())])
        self.check(False, [("d", Moments.none(), Moments.span(20, 20)), one, two])
        self.check(False, [one, two, ("north", Moments.none(), Moments.none())])
        self.check(False, [("a", one[1], one[2]), two])
        self.check(False, [("a", one[1], one[2]), ("b", two[1], two[2])])

    def test_sets_that_are_wrong_by_one_moment(self):
        one, two = self.rows()
        for moment in (-1, 3, 7):
            self.check(False, [("b", one[1] | Moments.span(moment, moment), one[2]), two])
        for spans in ([(1, 2), (4, 6)], [(0, 1), (4, 6)], [(0, 2), (5, 6)], [(0, 2), (4, 5)], [(0, 2)], [], [(0, 6)]):
            self.check(False, [("b", Moments(spans), one[2]), two])
        for spans in ([(21, 23)], [(22, 24)], [(22, 22)], [(23, 23)], []):
            self.check(False, [("b", one[1], Moments(spans)), two])
        for low, high in ((2, 5), (3, 6), (4, 5), (3, 4)):
            self.check(False, [one, ("a", Moments.span(low, high), two[2])])
        for low, high in ((20, 21), (21, 22), (22, 22), (20, 20), (1, 0)):
            self.check(False, [one, ("a", two[1], Moments.span(low, high))])
        self.check(False, [("b", one[2], one[1]), two])
        self.check(False, self.rows(21))
        self.check(False, self.rows(), 21)
        self.check(False, self.rows(), 0)

    def test_no_room_in_common(self):
        first, second = Round([("a", 1, 5), ("hall", 3, 3)]), Round([("hall", 1, 1), ("b", 1, 5)])
        for apart in (0, -3, HUGE):
            self.assertIs(Alibi(first, second, apart, []).holds(), True)
            for room in ("a", "b", "hall"):
                rows = [(room, Moments.span(0, 4), Moments.span(apart + 1, apart + 5))]
                self.assertIs(Alibi(first, second, apart, rows).holds(), False)

    def test_against_all_lengths(self):
        for first in TOURS[::2]:
            for second in TOURS:
                one, other = Round(first), Round(second)
                may, _ = counted_words(first, second)
                for apart in range(-other.longest - 1, one.longest + 2):
                    rows = []
                    for room in one.rooms:
                        if room in other.rooms:
                            sets = [{moment for steps in all_steps(stays, start) for moment, place in places(steps)
                                     if place == room} for stays, start in ((first, 0), (second, apart))]
                            rows.append((room, *[Moments([(x, x) for x in each]) for each in sets]))
                    self.assertIs(Alibi(one, other, apart, rows).holds(), apart not in may)


def cells_of(*rows):
    """The cells of a Trap, from tuples (i, j, spans)."""
    return [(i, j, Moments(spans)) for i, j, spans in rows]


class TrapTest(unittest.TestCase):
    def check(self, holds, first, second, apart, *rows):
        with self.subTest(first=first.stays, second=second.stays, apart=apart, rows=rows):
            self.assertIs(Trap(first, second, apart, cells_of(*rows)).holds(), holds)
            numbers = [first.longest, second.longest] + [end for row in rows for span in row[2] for end in span]
            if max(map(abs, numbers)) < 100:
                self.assertIs(counted_trap(first.stays, second.stays, apart, cells_of(*rows)), holds)
            mirrored = sorted([(j, i, [(-high, -low) for low, high in spans]) for i, j, spans in rows])
            if list(rows) == sorted(rows):
                self.assertIs(Trap(second, first, -apart, cells_of(*mirrored)).holds(), holds)

    def test_right_cells(self):
        self.check(True, FIRST, SECOND, 10, (1, 1, [(10, 10)]), (2, 1, [(-2, 0)]))
        self.check(True, FIRST, SECOND, 11, (1, 1, [(11, 11)]), (2, 1, [(-1, 1)]))
        self.check(True, FIRST, SECOND, 12, (2, 1, [(0, 2)]))
        self.check(True, FIRST, SECOND, 14, (2, 1, [(2, 4)]))
        self.check(True, SECOND, FIRST, -11, (1, 1, [(-11, -11)]), (1, 2, [(-1, 1)]))

    def test_first_common_cells_and_targets_that_are_missing(self):
        self.check(False, FIRST, SECOND, 11)
        self.check(False, FIRST, SECOND, 11, (2, 1, [(-1, 1)]))
        self.check(False, FIRST, SECOND, 11, (1, 1, [(11, 11)]))
        for spans in ([(0, 1)], [(-1, 0)], [(-1, -1), (1, 1)], [(-1, -1)], [(0, 0)], []):
            self.check(False, FIRST, SECOND, 11, (1, 1, [(11, 11)]), (2, 1, spans))
        for spans in ([], [(10, 10)]):
            self.check(False, FIRST, SECOND, 11, (1, 1, spans), (2, 1, [(-2, 1)]))

    def test_more_than_what_can_be_reached(self):
        self.check(True, FIRST, SECOND, 11, (1, 1, [(11, 11)]), (2, 1, [(-3, 7)]))
        self.check(False, FIRST, SECOND, 11, (1, 1, [(10, 11)]), (2, 1, [(-1, 1)]))
        self.check(True, FIRST, SECOND, 11, (1, 1, [(10, 11)]), (2, 1, [(-2, 1)]))
        # From 9 the second group can be home when the first one comes to the west, from 8 before that.
        self.check(False, FIRST, SECOND, 11, (1, 1, [(9, 11)]), (2, 1, [(-3, 1)]))
        self.check(False, FIRST, SECOND, 11, (1, 1, [(8, 8), (10, 11)]), (2, 1, [(-3, 1)]))
        self.check(True, FIRST, SECOND, 12, (1, 1, []), (2, 1, [(0, 2)]))

    def test_offsets_out_of_range(self):
        self.check(True, FIRST, SECOND, 12, (2, 1, [(-3, 7)]))
        self.check(False, FIRST, SECOND, 12, (2, 1, [(-4, 7)]))
        self.check(False, FIRST, SECOND, 12, (2, 1, [(-3, 8)]))
        self.check(False, FIRST, SECOND, 12, (2, 1, [(-HUGE, HUGE)]))
        self.check(True, FIRST, SECOND, 12, (1, 1, [(11, 11)]), (2, 1, [(-3, 7)]))
        self.check(False, FIRST, SECOND, 12, (1, 1, [(11, 12)]), (2, 1, [(-3, 7)]))

    def test_cells_out_of_range(self):
        right = (2, 1, [(0, 2)])
        for wrong in ((0, 1), (0, 0), (1, 0), (-1, 1), (1, -1), (2, 0), (-HUGE, 1)):
            for spans in ([], [(0, 0)]):
                self.check(False, FIRST, SECOND, 12, (*wrong, spans), right)
        for wrong in ((3, 1), (2, 2), (3, 2), (3, 0), (HUGE, HUGE)):
            for spans in ([], [(0, 0)]):
                self.check(False, FIRST, SECOND, 12, right, (*wrong, spans))

    def test_cells_out_of_order(self):
        one, two = (1, 1, [(11, 11)]), (2, 1, [(-1, 1)])
        self.check(False, FIRST, SECOND, 11, two, one)
        self.check(False, FIRST, SECOND, 11, one, one, two)
        self.check(False, FIRST, SECOND, 11, one, two, two)
        self.check(False, FIRST, SECOND, 11, one, two, one)
        self.check(False, FIRST, SECOND, 11, (1, 1, []), one, two)
        self.check(False, FIRST, SECOND, 11, one, (2, 1, [(-1, 0)]), (2, 1, [(1, 1)]))
        self.check(False, Round([("a", 4, 4), ("b", 4, 4)]), Round([("b", 4, 4), ("a", 4, 4)]), 1,
                   (1, 2, []), (1, 1, [(1, 1)]), (2, 1, [(-3, -3)]))

    def test_empty_sets_and_shared_cells(self):
        first, second = Round([("a", 4, 4), ("b", 4, 4)]), Round([("b", 4, 4), ("a", 4, 4)])
        one, two = (1, 1, [(1, 1)]), (2, 1, [(-3, -3)])
        self.check(True, first, second, 1, one, two)
        self.check(True, first, second, 1, one, (1, 2, []), two)
        self.check(True, first, second, 1, one, (1, 2, [(-3, 3)]), two)
        self.check(False, first, second, 1, one, (1, 2, [(-3, 4)]), two)
        self.check(True, first, second, 1, one, two, (2, 2, []))
        self.check(False, first, second, 1, one, two, (2, 2, [(0, 0)]))
        self.check(False, first, second, 1, one, two, (2, 2, [(3, 3)]))

    def test_each_kind_of_move(self):
        # The first group leaves first, then the second one.
        first, second = Round([("a", 2, 3), ("b", 5, 5)]), Round([("b", 5, 6)])
        self.check(True, first, second, 1, (1, 1, [(1, 1)]), (2, 1, [(-2, -1)]))
        self.check(False, first, second, 1, (1, 1, [(1, 1)]), (2, 1, [(-2, -2)]))
        self.check(False, first, second, 1, (1, 1, [(1, 1)]), (2, 1, [(-1, -1)]))
        self.check(True, second, first, -1, (1, 1, [(-1, -1)]), (1, 2, [(1, 2)]))
        self.check(False, second, first, -1, (1, 1, [(-1, -1)]), (1, 2, [(1, 1)]))
        self.check(False, second, first, -1, (1, 1, [(-1, -1)]), (1, 2, [(2, 2)]))
        # Both leave at the same moment.
        first, second = Round([("a", 2, 2), ("b", 3, 3)]), Round([("c", 2, 2), ("b", 3, 3)])
        self.check(True, first, second, 0, (1, 1, [(0, 0)]), (2, 2, [(0, 0)]))
        self.check(False, first, second, 0, (1, 1, [(0, 0)]))
        self.check(False, first, second, 0, (1, 1, [(0, 0)]), (2, 2, []))
        self.check(False, first, second, 0, (1, 1, [(0, 0)]), (2, 2, [(1, 1)]))

    def test_moves_that_make_free(self):
        first, second = Round([("a", 2, 2), ("c", 1, 1)]), Round([("b", 5, 5)])
        self.check(False, first, second, 0, (1, 1, [(0, 0)]), (2, 1, [(-2, -2)]))
        self.check(False, second, first, 0, (1, 1, [(0, 0)]), (1, 2, [(2, 2)]))
        self.check(False, Round([("a", 2, 2)]), Round([("b", 2, 2)]), 0, (1, 1, [(0, 0)]))
        self.check(False, Round([("a", 2, 2)]), Round([("b", 2, 2), ("a", 1, 1)]), 0, (1, 1, [(0, 0)]))
        self.check(False, Round([("hall", 2, 2)]), Round([("hall", 2, 2)]), 0, (1, 1, [(0, 0)]))
        self.check(True, Round([("a", 2, 2)]), Round([("a", 2, 2)]), 0, (1, 1, [(0, 0)]))

    def test_groups_that_are_free_at_once(self):
        first, second = Round([("a", 3, 9)]), Round([("a", 5, 7)])
        for apart, holds in ((0, True), (1, True), (2, True), (3, False), (4, False), (-1, True), (-4, True),
                             (-5, False), (-6, False)):
            self.check(holds, first, second, apart, (1, 1, [(apart, apart)]))
            self.check(holds, first, second, apart, (1, 1, [(-6, 8)]))
        for apart in (9, 10, HUGE, -7, -8, -HUGE):
            self.check(False, first, second, apart)
            self.check(False, first, second, apart, (1, 1, [(-6, 8)]))
        tour = Round([("a", HUGE, 2 * HUGE)])
        for apart, holds in ((HUGE - 1, True), (HUGE, False), (1 - HUGE, True), (-HUGE, False)):
            self.check(holds, tour, tour, apart, (1, 1, [(apart, apart)]))
            self.check(False, tour, tour, apart, (1, 1, [(0, 0)]))

    def test_large_numbers(self):
        first = Round([("a", HUGE, 2 * HUGE), ("b", 3 * HUGE, 3 * HUGE)])
        second = Round([("b", 4 * HUGE, 5 * HUGE)])
        one = (1, 1, [(7, 7)])
        self.check(True, first, second, 7, one, (2, 1, [(7 - 2 * HUGE, 7 - HUGE)]))
        self.check(False, first, second, 7, one, (2, 1, [(8 - 2 * HUGE, 7 - HUGE)]))
        self.check(False, first, second, 7, one, (2, 1, [(7 - 2 * HUGE, 6 - HUGE)]))
        self.check(True, first, second, 7, one, (2, 1, [(1 - 5 * HUGE, 3 * HUGE - 1)]))
        self.check(False, first, second, 7, one, (2, 1, [(-5 * HUGE, 3 * HUGE - 1)]))

    def test_against_all_moves(self):
        pairs = [(first, second) for first in TOURS for second in TOURS[::3]]
        for first, second in pairs:
            one, other = Round(first), Round(second)
            for apart in range(-other.shortest - 1, one.shortest + 2):
                self.compare(first, second, apart)

    def compare(self, first, second, apart):
        """Compare the cells that are reached, and such as are wrong by one thing, with all moves."""
        one, other = Round(first), Round(second)
        cells = [(i, j, offsets) for (i, j), offsets in reach_sets(one, other, apart).items()]
        variants = [cells, cells[::-1], cells[1:], cells[:-1], cells + cells[-1:]]
        for place, (i, j, offsets) in enumerate(cells):
            ends = [end for span in offsets for end in span]
            for end in ends:
                for number in (end - 1, end, end + 1):
                    changed = offsets ^ Moments.span(number, number)
                    variants.append(cells[:place] + [(i, j, changed)] + cells[place + 1:])
        for variant in variants:
            with self.subTest(first=first, second=second, apart=apart,
                              cells=[(i, j, sorted(members(offsets))) for i, j, offsets in variant]):
                self.assertIs(Trap(one, other, apart, variant).holds(), counted_trap(first, second, apart, variant))


if __name__ == "__main__":
    unittest.main()
