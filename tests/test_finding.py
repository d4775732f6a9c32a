"""How certificates are found: point 22."""

import unittest

from counting import TOURS, all_lengths, counted_words, places, steps_of
from large import APART, HUGE, LARGE, LONG, OTHER, around
from neverrounds.certificates import Alibi, Avoidance, Meeting, Trap
from neverrounds.finding import alibi, avoidance, meeting, trap
from neverrounds.meets import least_lag, may_meet
from neverrounds.rounds import Round
from neverrounds.stairs import surely_meet

FIRST = Round([("east", 10, 12), ("west", 5, 8)])
SECOND = Round([("west", 3, 4)])


class FindingTest(unittest.TestCase):
    def check(self, first, second, apart, word):
        """Check what the four functions return, where this is the word."""
        found = [(meeting(first, second, apart), Meeting, word != "never"),
                 (alibi(first, second, apart), Alibi, word == "never"),
                 (avoidance(first, second, apart), Avoidance, word != "surely"),
                 (trap(first, second, apart), Trap, word == "surely")]
        with self.subTest(first=first.stays, second=second.stays, apart=apart):
            for certificate, kind, expected in found:
                self.assertEqual(certificate is not None, expected)
                if certificate is not None:
                    self.assertIs(type(certificate), kind)
                    self.assertIs(certificate.holds(), True)
                    self.assertEqual([certificate.first, certificate.second, certificate.apart],
                                     [first, second, apart])
            for certificate, _, _ in (found[0], found[2]):
                if certificate is not None:
                    self.check_lengths(certificate.first_lengths + certificate.second_lengths)
        return [certificate for certificate, _, _ in found]

    def check_lengths(self, lengths):
        self.assertEqual([length for length in lengths if type(length) is not int], [])

    def test_by_hand(self):
        for apart, word in ((6, "never"), (7, "maybe"), (9, "maybe"), (10, "surely"), (14, "surely"), (15, "maybe"),
                            (19, "maybe"), (20, "never"), (-HUGE, "never"), (HUGE, "never")):
            self.check(FIRST, SECOND, apart, word)
            self.check(SECOND, FIRST, -apart, word)

    def test_a_meeting_by_hand(self):
        certificate = meeting(FIRST, SECOND, 7)
        self.assertEqual([certificate.first_lengths, certificate.second_lengths], [[10, 5], [4]])
        self.assertEqual([certificate.room, certificate.moment, certificate.lag], ["west", 10, 1])
        certificate = meeting(FIRST, SECOND, 19)
        self.assertEqual([certificate.first_lengths, certificate.second_lengths], [[12, 8], [3]])
        self.assertEqual([certificate.room, certificate.moment, certificate.lag], ["west", 19, 5])

    def test_an_alibi_by_hand(self):
        rows = [(room, one.spans, other.spans) for room, one, other in alibi(FIRST, SECOND, 20).rows]
        self.assertEqual(rows, [("west", [(10, 19)], [(20, 23)])])
        self.assertEqual(alibi(FIRST, Round([("north", 1, 1), ("hall", 1, 1)]), 0).rows, [])

    def test_an_avoidance_by_hand(self):
        certificate = avoidance(FIRST, SECOND, 9)
        self.assertEqual([certificate.first_lengths[0], certificate.second_lengths], [12, [3]])
        certificate = avoidance(FIRST, SECOND, 15)
        self.assertEqual(certificate.first_lengths, [10, 5])

    def test_a_trap_by_hand(self):
        cells = [(i, j, offsets.spans) for i, j, offsets in trap(FIRST, SECOND, 12).cells]
        self.assertEqual(cells, [(2, 1, [(0, 2)])])

    def test_against_all_lengths(self):
        for first in TOURS:
            for second in TOURS:
                may, surely = counted_words(first, second)
                one, other = Round(first), Round(second)
                for apart in range(-other.longest - 2, one.longest + 3):
                    word = "surely" if apart in surely else "maybe" if apart in may else "never"
                    self.count_out(first, second, apart, self.check(one, other, apart, word))

    def count_out(self, first, second, apart, found):
        """Look at the lengths that were found moment by moment."""
        met, _, avoided, _ = found
        if met is not None:
            one, other = steps_of(first, 0, met.first_lengths), steps_of(second, apart, met.second_lengths)
            self.assertIn((met.moment, met.room), places(one) & places(other))
            least = sum(stay[1] for stay in first + second)
            self.assertEqual(sum(met.first_lengths) + sum(met.second_lengths) - least, met.lag)
            self.assertEqual(met.lag, least_lag(Round(first), Round(second), apart))
        if avoided is not None:
            self.assertIn(avoided.first_lengths, all_lengths(first))
            self.assertIn(avoided.second_lengths, all_lengths(second))
            one, other = steps_of(first, 0, avoided.first_lengths), steps_of(second, apart, avoided.second_lengths)
            self.assertEqual(places(one) & places(other), set())

    def test_large_numbers(self):
        for first, second in LARGE:
            may, surely = may_meet(first, second), surely_meet(first, second)
            for apart in around(first, second):
                word = "surely" if apart in surely else "maybe" if apart in may else "never"
                found = self.check(first, second, apart, word)
                if found[0] is not None:
                    self.assertEqual(found[0].lag, least_lag(first, second, apart))
                self.check(second, first, -apart, word)

    def test_no_common_room(self):
        for first, second in ((LONG, APART), (Round([("hall", 1, HUGE)]), Round([("hall", HUGE, HUGE)])),
                              (Round([("a", 1, 1)]), Round([("b", 1, 1)]))):
            for apart in (0, 1, -1, HUGE, -HUGE):
                self.check(first, second, apart, "never")
                self.assertEqual(alibi(first, second, apart).rows, [])

    def test_free_at_once_and_one_less(self):
        first, second = Round([("a", 3, 9)]), Round([("a", 5, 7)])
        for apart, word in ((2, "surely"), (3, "maybe"), (8, "maybe"), (9, "never"), (-4, "surely"), (-5, "maybe"),
                            (-6, "maybe"), (-7, "never")):
            self.check(first, second, apart, word)

    def test_the_rounds_stay_as_they_are(self):
        stays, others = LONG.stays, OTHER.stays
        for apart in (0, 7, HUGE, 9 * HUGE):
            for find in (meeting, alibi, avoidance, trap):
                find(LONG, OTHER, apart)
        self.assertEqual([LONG.stays, OTHER.stays], [stays, others])

    def test_certificates_share_nothing(self):
        one, two = meeting(FIRST, SECOND, 9), meeting(FIRST, SECOND, 9)
        one.first_lengths.clear()
        self.assertIs(two.holds(), True)
        trap(FIRST, SECOND, 12).cells.clear()
        self.assertIs(trap(FIRST, SECOND, 12).holds(), True)
        alibi(FIRST, SECOND, 30).rows.clear()
        self.assertIs(alibi(FIRST, SECOND, 30).holds(), True)


if __name__ == "__main__":
    unittest.main()
