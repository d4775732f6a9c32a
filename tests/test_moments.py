"""Sets of moments: points 1, 2 and 4 to 7."""

import unittest

from counting import members, spans_of, subsets
from neverrounds.errors import BadModulus, BadSpan
from neverrounds.moments import Moments

HUGE = 10 ** 54 + 12345678901234567890
GAPPED = [(-9, -7), (-4, -4), (-1, 2), (5, 5), (7, 11)]


def counted(numbers):
    """The set of moments that contains the integers of a plain set."""
    return Moments([(x, x) for x in numbers])


SMALL = [numbers for numbers in subsets(range(-3, 4))]
PAIRS = [(one, other) for one in subsets((-4, -2, -1, 0, 1, 3)) for other in subsets((-3, -2, 0, 1, 2))]


class SpansTest(unittest.TestCase):
    def check(self, pairs, spans):
        with self.subTest(pairs):
            self.assertEqual(Moments(pairs).spans, spans)

    def test_the_example(self):
        a = Moments([(7, 9), (1, 3), (4, 4)])
        self.assertEqual(a.spans, [(1, 4), (7, 9)])
        self.assertEqual((a - Moments([(0, 1)])).spans, [(0, 4), (6, 9)])
        self.assertEqual((a // 2).spans, [(1, 2), (4, 4)])

    def test_how_pairs_are_joined(self):
        self.check([], [])
        self.check([(3, 3)], [(3, 3)])
        self.check([(-5, 5)], [(-5, 5)])
        self.check([(1, 5), (3, 8)], [(1, 8)])
        self.check([(1, 2), (3, 4)], [(1, 4)])
        self.check([(1, 2), (4, 5)], [(1, 2), (4, 5)])
        self.check([(1, 2), (5, 6)], [(1, 2), (5, 6)])
        self.check([(1, 9), (1, 9), (1, 9)], [(1, 9)])
        self.check([(1, 9), (3, 5)], [(1, 9)])
        self.check([(1, 9), (3, 5), (7, 12)], [(1, 12)])
        self.check([(1, 9), (1, 4), (9, 9), (10, 10)], [(1, 10)])
        self.check([(1, 3), (1, 9)], [(1, 9)])
        self.check([(8, 9), (-3, -3), (4, 6), (-2, 0), (2, 2)], [(-3, 0), (2, 2), (4, 6), (8, 9)])
        self.check([(HUGE, HUGE + 5), (-HUGE, HUGE - 1)], [(-HUGE, HUGE + 5)])
        self.check([(HUGE, HUGE + 5), (-HUGE, HUGE - 2)], [(-HUGE, HUGE - 2), (HUGE, HUGE + 5)])

    def test_every_order_of_pairs(self):
        pairs = [(0, 2), (3, 3), (5, 9), (6, 7), (11, 12)]
        for turn in range(len(pairs)):
            self.check(pairs[turn:] + pairs[:turn], [(0, 3), (5, 9), (11, 12)])
            self.check((pairs[turn:] + pairs[:turn])[::-1], [(0, 3), (5, 9), (11, 12)])

    def test_spans_are_those_of_the_counted_integers(self):
        for numbers in SMALL:
            self.assertEqual(counted(numbers).spans, spans_of(numbers))
            self.assertEqual(counted(sorted(numbers, reverse=True)).spans, spans_of(numbers))

    def test_sixty_pairs(self):
        self.check([(3 * k, 3 * k + 1) for k in range(60)], [(3 * k, 3 * k + 1) for k in range(60)])
        self.check([(2 * k, 2 * k + 1) for k in range(60)], [(0, 119)])
        self.check([(k * HUGE, k * HUGE + 7) for k in range(60, 0, -1)],
                   [(k * HUGE, k * HUGE + 7) for k in range(1, 61)])

    def test_wrong_pairs(self):
        for pairs, place in (([(1, 0)], 1), ([(0, 0), (2, 1)], 2), ([(5, 4), (3, 2)], 1), ([(1, 1), (9, 3), (8, 2)], 2),
                             ([(9, 9), (1, 4), (2, 3), (-1, -2)], 4), ([(HUGE, HUGE - 1)], 1),
                             ([(k, k) for k in range(59)] + [(0, -1)], 60)):
            with self.subTest(pairs):
                with self.assertRaises(BadSpan) as caught:
                    Moments(pairs)
                self.assertEqual(caught.exception.place, place)

    def test_the_list_that_was_passed_in(self):
        pairs = [(4, 6), (1, 2)]
        a = Moments(pairs)
        self.assertEqual(pairs, [(4, 6), (1, 2)])
        pairs.append((8, 9))
        pairs[0] = (0, 100)
        self.assertEqual(a.spans, [(1, 2), (4, 6)])

    def test_a_list_that_was_passed_in_as_it_is_kept(self):
        pairs = [(1, 2), (4, 6)]
        a = Moments(pairs)
        pairs.pop()
        self.assertEqual(a.spans, [(1, 2), (4, 6)])

    def test_the_list_that_was_returned(self):
        a = Moments([(1, 2), (4, 6)])
        a.spans.append((9, 9))
        spans = a.spans
        spans.clear()
        self.assertEqual(a.spans, [(1, 2), (4, 6)])
        self.assertEqual(list(a), [(1, 2), (4, 6)])
        self.assertIsNot(a.spans, a.spans)
        self.assertIs(type(a.spans), list)
        self.assertEqual([type(pair) for pair in a.spans], [tuple, tuple])


class TwoSetsTest(unittest.TestCase):
    def test_union_intersection_and_exactly_one(self):
        for one, other in PAIRS:
            a, b = counted(one), counted(other)
            self.assertEqual((a | b).spans, spans_of(one | other))
            self.assertEqual((a & b).spans, spans_of(one & other))
            self.assertEqual((a ^ b).spans, spans_of(one ^ other))

    def test_sums_and_differences(self):
        for one, other in PAIRS:
            a, b = counted(one), counted(other)
            self.assertEqual((a + b).spans, spans_of({x + y for x in one for y in other}))
            self.assertEqual((a - b).spans, spans_of({x - y for x in one for y in other}))

    def test_the_minus_is_no_set_difference(self):
        self.assertEqual((Moments([(1, 9)]) - Moments([(4, 5)])).spans, [(-4, 5)])

    def test_empty_sets(self):
        a, none = Moments(GAPPED), Moments.none()
        self.assertEqual((a | none).spans, GAPPED)
        self.assertEqual((none | a).spans, GAPPED)
        self.assertEqual((a ^ none).spans, GAPPED)
        self.assertEqual((none ^ a).spans, GAPPED)
        for empty in (a & none, none & a, a + none, none + a, a - none, none - a, none | none, none & none, none ^ none,
                      none + none, none - none, -none, abs(none), none >> 5, none << 5, none % 3, none // 3):
            self.assertEqual(empty.spans, [])

    def test_a_set_and_itself(self):
        a = Moments(GAPPED)
        numbers = members(a)
        self.assertEqual((a | a).spans, GAPPED)
        self.assertEqual((a & a).spans, GAPPED)
        self.assertEqual((a ^ a).spans, [])
        self.assertEqual((a + a).spans, spans_of({x + y for x in numbers for y in numbers}))
        self.assertEqual((a - a).spans, spans_of({x - y for x in numbers for y in numbers}))
        self.assertEqual(a.spans, GAPPED)

    def test_large_numbers(self):
        a = Moments([(-HUGE, -5), (0, HUGE)])
        b = Moments([(-7, 3), (HUGE, HUGE + 9)])
        self.assertEqual((a | b).spans, [(-HUGE, HUGE + 9)])
        self.assertEqual((a & b).spans, [(-7, -5), (0, 3), (HUGE, HUGE)])
        self.assertEqual((a ^ b).spans, [(-HUGE, -8), (-4, -1), (4, HUGE - 1), (HUGE + 1, HUGE + 9)])
        c = Moments([(0, 1), (HUGE, HUGE)])
        self.assertEqual((c + c).spans, [(0, 2), (HUGE, HUGE + 1), (2 * HUGE, 2 * HUGE)])
        self.assertEqual((c - c).spans, [(-HUGE, 1 - HUGE), (-1, 1), (HUGE - 1, HUGE)])

    def test_sums_of_many_spans(self):
        ones = Moments([(k, k) for k in range(0, 120, 2)])
        far = Moments([(k * HUGE, k * HUGE) for k in range(60)])
        self.assertEqual((ones + far).size, 3600)
        self.assertEqual(len(ones + far), 3600)
        self.assertEqual((far - ones).lowest, -118)
        self.assertEqual((ones + ones).spans, [(k, k) for k in range(0, 237, 2)])

    def test_the_operands_stay_as_they_are(self):
        other = [(-8, -8), (0, 6), (20, HUGE)]
        a, b = Moments(GAPPED), Moments(other)
        made = [a | b, a & b, a ^ b, a + b, a - b, -a, abs(a), a >> 3, a << 3, a % 5, a // 5, a.outside(-20, 20),
                a.clipped(-20, 20)]
        self.assertEqual(a.spans, GAPPED)
        self.assertEqual(b.spans, other)
        for found in made:
            self.assertIsInstance(found, Moments)
            self.assertIsNot(found, a)
            self.assertIsNot(found, b)


class OneSetTest(unittest.TestCase):
    def test_minus_and_absolute_values(self):
        for numbers in SMALL:
            a = counted(numbers)
            self.assertEqual((-a).spans, spans_of({-x for x in numbers}))
            self.assertEqual(abs(a).spans, spans_of({abs(x) for x in numbers}))

    def test_absolute_values_on_both_sides_of_nothing(self):
        for pairs, spans in (([(-3, 5)], [(0, 5)]), ([(-5, 3)], [(0, 5)]), ([(-5, -2), (3, 4)], [(2, 5)]),
                             ([(-9, -8), (1, 2), (5, 6)], [(1, 2), (5, 6), (8, 9)]), ([(-4, 0)], [(0, 4)]),
                             ([(0, 4)], [(0, 4)]), ([(-4, -1)], [(1, 4)]), ([(-HUGE, HUGE - 1)], [(0, HUGE)]),
                             ([(-HUGE, -HUGE), (7, 7)], [(7, 7), (HUGE, HUGE)])):
            with self.subTest(pairs):
                self.assertEqual(abs(Moments(pairs)).spans, spans)

    def test_shifts(self):
        a = Moments(GAPPED)
        for k in (0, 1, -1, 7, -20, HUGE, -HUGE):
            with self.subTest(k):
                self.assertEqual((a >> k).spans, [(low + k, high + k) for low, high in GAPPED])
                self.assertEqual((a << k).spans, [(low - k, high - k) for low, high in GAPPED])

    def test_minus_of_large_numbers(self):
        self.assertEqual((-Moments([(-HUGE, 3), (9, HUGE)])).spans, [(-HUGE, -9), (-3, HUGE)])

    def test_remainders_and_quotients_of_counted_sets(self):
        for numbers in SMALL:
            for shift in (0, 5, -11):
                moved = {x + shift for x in numbers}
                a = counted(moved)
                for n in range(1, 10):
                    self.assertEqual((a % n).spans, spans_of({x % n for x in moved}))
                    self.assertEqual((a // n).spans, spans_of({y for y in range(-30, 30) if n * y in moved}))

    def test_remainders_of_spans_of_every_length(self):
        for n in (1, 2, 3, 7):
            for low in range(-2 * n - 1, 2 * n + 2):
                for high in range(low, low + 2 * n + 2):
                    with self.subTest(n=n, low=low, high=high):
                        self.assertEqual((Moments([(low, high)]) % n).spans,
                                         spans_of({x % n for x in range(low, high + 1)}))

    def test_remainders(self):
        for pairs, n, spans in (([(0, 5)], 7, [(0, 5)]), ([(0, 6)], 7, [(0, 6)]), ([(0, 7)], 7, [(0, 6)]),
                                ([(3, 8)], 7, [(0, 1), (3, 6)]), ([(3, 9)], 7, [(0, 6)]), ([(3, 10)], 7, [(0, 6)]),
                                ([(-2, 1)], 7, [(0, 1), (5, 6)]), ([(7, 7), (-7, -7)], 7, [(0, 0)]),
                                ([(2, 3), (11, 12)], 7, [(2, 5)]), ([(5, HUGE)], HUGE, [(0, 0), (5, HUGE - 1)]),
                                ([(-HUGE, HUGE)], 10, [(0, 9)]), ([(-1, -1)], HUGE, [(HUGE - 1, HUGE - 1)])):
            with self.subTest(pairs=pairs, n=n):
                self.assertEqual((Moments(pairs) % n).spans, spans)

    def test_quotients(self):
        for pairs, n, spans in (([(0, 0)], 5, [(0, 0)]), ([(5, 10)], 5, [(1, 2)]), ([(6, 9)], 5, []),
                                ([(4, 9)], 5, [(1, 1)]), ([(6, 10)], 5, [(2, 2)]), ([(4, 11)], 5, [(1, 2)]),
                                ([(-10, -5)], 5, [(-2, -1)]), ([(-9, -6)], 5, []), ([(-11, -4)], 5, [(-2, -1)]),
                                ([(-9, -5)], 5, [(-1, -1)]), ([(-10, -6)], 5, [(-2, -2)]), ([(-4, 4)], 5, [(0, 0)]),
                                ([(1, 4), (5, 5), (10, 10), (20, 20)], 5, [(1, 2), (4, 4)]),
                                ([(0, 0), (2, 2), (4, 4)], 2, [(0, 2)]), ([(3, HUGE)], HUGE, [(1, 1)]),
                                ([(-HUGE, -1)], HUGE, [(-1, -1)]), ([(-3 * HUGE, HUGE - 1)], HUGE, [(-3, 0)]),
                                ([(-HUGE, HUGE)], 1, [(-HUGE, HUGE)])):
            with self.subTest(pairs=pairs, n=n):
                self.assertEqual((Moments(pairs) // n).spans, spans)

    def test_wrong_modulus(self):
        for a in (Moments(GAPPED), Moments.none()):
            for n in (0, -1, -7, -HUGE):
                with self.subTest(n=n):
                    with self.assertRaises(BadModulus) as caught:
                        a % n
                    self.assertEqual(caught.exception.number, n)
                    with self.assertRaises(BadModulus) as caught:
                        a // n
                    self.assertEqual(caught.exception.number, n)

    def test_contains(self):
        a = Moments(GAPPED)
        for x in range(-15, 16):
            self.assertIs(x in a, x in members(a))
            self.assertIs(x not in a, x not in members(a))
            self.assertIs(x in Moments.none(), False)
        b = Moments([(-HUGE, HUGE)])
        for x, answer in ((-HUGE - 1, False), (-HUGE, True), (0, True), (HUGE, True), (HUGE + 1, False)):
            self.assertIs(x in b, answer)

    def test_equal(self):
        self.assertIs(Moments([(1, 2), (3, 4)]) == Moments([(1, 4)]), True)
        self.assertIs(Moments([(1, 2), (4, 4)]) == Moments([(1, 4)]), False)
        self.assertIs(Moments([(1, 4)]) == Moments([(1, 5)]), False)
        self.assertIs(Moments([(1, 4)]) == Moments([(0, 4)]), False)
        self.assertIs(Moments([]) == Moments.none(), True)
        self.assertIs(Moments.none() == Moments([(0, 0)]), False)
        self.assertIs(Moments([(1, 4)]) != Moments([(1, 4)]), False)
        self.assertIs(Moments([(1, 4)]) != Moments([(2, 4)]), True)
        self.assertIs(Moments([(HUGE, HUGE + 1)]) == Moments([(HUGE + 1, HUGE + 1), (HUGE, HUGE)]), True)
        for one in SMALL[::5]:
            for other in SMALL[::3]:
                self.assertIs(counted(one) == counted(other), one == other)

    def test_length_and_iteration(self):
        a = Moments(GAPPED)
        self.assertEqual(len(a), 5)
        self.assertEqual(list(a), GAPPED)
        self.assertEqual([(low, high) for low, high in a], GAPPED)
        self.assertEqual([(one, other) for one in a for other in a],
                         [(one, other) for one in GAPPED for other in GAPPED])
        self.assertEqual([type(span) for span in a], [tuple] * 5)
        self.assertEqual(len(Moments.none()), 0)
        self.assertEqual(list(Moments.none()), [])
        self.assertEqual(len(Moments([(-HUGE, HUGE)])), 1)


class MembersTest(unittest.TestCase):
    def test_lowest_highest_and_size(self):
        for numbers in SMALL:
            a = counted(numbers)
            self.assertEqual(a.lowest, min(numbers, default=None))
            self.assertEqual(a.highest, max(numbers, default=None))
            self.assertEqual(a.size, len(numbers))
        a = Moments([(5, HUGE), (-HUGE, -2)])
        self.assertEqual([a.lowest, a.highest, a.size], [-HUGE, HUGE, 2 * HUGE - 5])

    def test_the_empty_set(self):
        for none in (Moments.none(), Moments([]), Moments.span(1, 0)):
            self.assertIsNone(none.lowest)
            self.assertIsNone(none.highest)
            self.assertEqual([none.size, none.spans, len(none)], [0, [], 0])

    def test_span_and_none(self):
        self.assertEqual(Moments.span(-3, 4).spans, [(-3, 4)])
        self.assertEqual(Moments.span(4, 4).spans, [(4, 4)])
        self.assertEqual(Moments.span(5, 4).spans, [])
        self.assertEqual(Moments.span(HUGE, -HUGE).spans, [])
        self.assertEqual(Moments.span(-HUGE, HUGE).spans, [(-HUGE, HUGE)])
        self.assertEqual(Moments.none().spans, [])

    def test_outside_and_clipped_at_every_end(self):
        for pairs in (GAPPED, [(0, 0)], [(-2, 3)], []):
            a = Moments(pairs)
            numbers = members(a)
            for low in range(-12, 14):
                for high in range(-13, 15):
                    asked = set(range(low, high + 1))
                    self.assertEqual(a.outside(low, high).spans, spans_of(asked - numbers))
                    self.assertEqual(a.clipped(low, high).spans, spans_of(asked & numbers))

    def test_outside_and_clipped_with_large_numbers(self):
        a = Moments([(-5, HUGE), (HUGE + 2, HUGE + 3)])
        self.assertEqual(a.outside(-HUGE, 2 * HUGE).spans, [(-HUGE, -6), (HUGE + 1, HUGE + 1), (HUGE + 4, 2 * HUGE)])
        self.assertEqual(a.clipped(HUGE, HUGE + 2).spans, [(HUGE, HUGE), (HUGE + 2, HUGE + 2)])
        self.assertEqual(a.outside(2 * HUGE, HUGE).spans, [])
        self.assertEqual(a.clipped(2 * HUGE, HUGE).spans, [])

    def test_within(self):
        for one, other in PAIRS:
            self.assertIs(counted(one).within(counted(other)), one <= other)
            self.assertIs(counted(other).within(counted(one)), other <= one)
        a, part, none = Moments(GAPPED), Moments([(-8, -8), (0, 1), (7, 11)]), Moments.none()
        self.assertIs(part.within(a), True)
        self.assertIs(a.within(part), False)
        self.assertIs(a.within(a), True)
        self.assertIs(Moments([(5, 7)]).within(a), False)
        self.assertIs(none.within(a), True)
        self.assertIs(a.within(none), False)
        self.assertIs(none.within(none), True)
        self.assertIs(a.within(Moments.span(-HUGE, HUGE)), True)
        self.assertIs(Moments.span(-HUGE, HUGE).within(Moments.span(1 - HUGE, HUGE)), False)

    def test_free_from(self):
        a = Moments(GAPPED)
        for x in range(-15, 16):
            self.assertEqual(a.free_from(x), min(set(range(x, 20)) - members(a)))
            self.assertEqual(Moments.none().free_from(x), x)
        self.assertEqual(Moments([(1, 4), (6, 9)]).free_from(3), 5)
        self.assertEqual(Moments([(1, 4), (6, 9)]).free_from(6), 10)
        self.assertEqual(Moments([(-HUGE, HUGE)]).free_from(-HUGE), HUGE + 1)
        self.assertEqual(Moments([(-HUGE, HUGE)]).free_from(-HUGE - 1), -HUGE - 1)
        self.assertEqual(Moments([(-HUGE, HUGE)]).free_from(HUGE + 1), HUGE + 1)


if __name__ == "__main__":
    unittest.main()
