"""The word of two groups: points 14 and 23."""

import unittest

from counting import TOURS, counted_words, spans_of
from large import HUGE, LARGE, around
from neverrounds.certificates import Alibi, Avoidance, Meeting, Trap
from neverrounds.judge import Parting, Verdict, judge, parting
from neverrounds.meets import may_meet
from neverrounds.rounds import Round
from neverrounds.stairs import surely_meet

FIRST = Round([("east", 10, 12), ("west", 5, 8)])
SECOND = Round([("west", 3, 4)])
KINDS = {"never": [Alibi], "maybe": [Meeting, Avoidance], "surely": [Meeting, Trap]}


class JudgeTest(unittest.TestCase):
    def check(self, first, second, apart, word):
        verdict = judge(first, second, apart)
        with self.subTest(first=first.stays, second=second.stays, apart=apart):
            self.assertIs(type(verdict), Verdict)
            self.assertEqual(verdict.word, word)
            self.assertIs(type(verdict.certificates), list)
            self.assertEqual([type(each) for each in verdict.certificates], KINDS[word])
            for each in verdict.certificates:
                self.assertIs(each.holds(), True)
                self.assertEqual([each.first, each.second, each.apart], [first, second, apart])

    def test_the_example(self):
        self.assertEqual(judge(FIRST, SECOND, 9).word, "maybe")
        self.assertEqual(parting(FIRST, SECOND).maybe.spans, [(7, 9), (15, 19)])

    def test_at_every_difference_of_the_example(self):
        words = ["never"] + ["maybe"] * 3 + ["surely"] * 5 + ["maybe"] * 5 + ["never"]
        for apart, word in zip(range(6, 21), words):
            self.check(FIRST, SECOND, apart, word)
            self.check(SECOND, FIRST, -apart, word)
            self.assertEqual(parting(FIRST, SECOND)(apart), word)
            self.assertEqual(parting(SECOND, FIRST)(-apart), word)

    def test_a_verdict_by_hand(self):
        certificates = judge(FIRST, SECOND, 9).certificates
        verdict = Verdict("maybe", certificates)
        self.assertEqual([verdict.word, verdict.certificates], ["maybe", certificates])
        certificates.clear()
        self.assertEqual(len(verdict.certificates), 2)
        judge(FIRST, SECOND, 9).certificates.clear()
        self.check(FIRST, SECOND, 9, "maybe")

    def test_large_numbers(self):
        for first, second in LARGE:
            found = parting(first, second)
            for apart in around(first, second):
                self.check(first, second, apart, found(apart))

    def test_no_common_room(self):
        first, second = Round([("a", 1, HUGE), ("hall", 1, 1)]), Round([("hall", 1, HUGE), ("b", 1, 1)])
        for apart in (0, 1, -1, HUGE, -HUGE):
            self.check(first, second, apart, "never")
        found = parting(first, second)
        self.assertEqual([found.may.spans, found.surely.spans, found.maybe.spans], [[], [], []])
        self.assertEqual([found(apart) for apart in (0, HUGE, -HUGE)], ["never"] * 3)

    def test_the_rounds_stay_as_they_are(self):
        stays, others = FIRST.stays, SECOND.stays
        judge(FIRST, SECOND, 9)
        parting(FIRST, SECOND)(9)
        self.assertEqual([FIRST.stays, SECOND.stays], [stays, others])


class PartingTest(unittest.TestCase):
    def test_attributes(self):
        for found in (parting(FIRST, SECOND), Parting(FIRST, SECOND)):
            self.assertIs(type(found), Parting)
            self.assertEqual([found.first, found.second], [FIRST, SECOND])
            self.assertEqual(found.may.spans, [(7, 19)])
            self.assertEqual(found.surely.spans, [(10, 14)])
            self.assertEqual(found.maybe.spans, [(7, 9), (15, 19)])

    def test_large_numbers(self):
        for first, second in LARGE:
            found = parting(first, second)
            self.assertEqual(found.may, may_meet(first, second))
            self.assertEqual(found.surely, surely_meet(first, second))
            for apart in around(first, second):
                word = found(apart)
                self.assertIs(word == "never", apart not in found.may)
                self.assertIs(word == "surely", apart in found.surely)
                self.assertIs(word == "maybe", apart in found.maybe)

    def test_against_all_lengths(self):
        for first in TOURS:
            for second in TOURS:
                may, surely = counted_words(first, second)
                found = parting(Round(first), Round(second))
                with self.subTest(first=first, second=second):
                    self.assertEqual(found.may.spans, spans_of(may))
                    self.assertEqual(found.surely.spans, spans_of(surely))
                    self.assertEqual(found.maybe.spans, spans_of(may - surely))
                    for apart in range(-30, 31):
                        word = "surely" if apart in surely else "maybe" if apart in may else "never"
                        self.assertEqual(found(apart), word)


if __name__ == "__main__":
    unittest.main()
