"""The waiting house: points 25 and 26, with point 12."""

import unittest
from itertools import combinations

from counting import TOURS, all_lengths, counted_run, counted_waits, places, steps_of
from neverrounds.errors import BadCount, BadLengths
from neverrounds.house import Run, run
from neverrounds.rounds import Round

HUGE = 10 ** 54 + 98765432109876543210


def rounds_of(groups):
    """The groups with rounds instead of lists of stays."""
    return [(name, Round(stays), start) for name, stays, start in groups]


def fixed(name, start, *stays):
    """A group, and the lengths of its stays, each a tuple (room, length)."""
    return (name, Round([(room, length, length) for room, length in stays]), start), [length for _, length in stays]


def run_fixed(*rows):
    """The run of some groups as fixed gives them."""
    return run([group for group, _ in rows], [lengths for _, lengths in rows])


class RunTest(unittest.TestCase):
    def test_by_hand(self):
        self.assertEqual([Run([[]], []).walks, Run([[]], []).waits], [[[]], []])
        walks, waits = [[("a", 0, 1, 2)]], [("x", 1, "a", 0, 1)]
        made = Run(walks, waits)
        walks.clear()
        waits.clear()
        self.assertEqual([made.walks, made.waits], [[[("a", 0, 1, 2)]], [("x", 1, "a", 0, 1)]])

    def test_no_groups_and_one(self):
        found = run([], [])
        self.assertIs(type(found), Run)
        self.assertEqual([found.walks, found.waits], [[], []])
        found = run_fixed(fixed("x", -4, ("a", 3), ("hall", 2), ("a", 1), ("a", 5)))
        self.assertEqual(found.walks, [[("a", -4, -4, -1), ("hall", -1, -1, 1), ("a", 1, 1, 2), ("a", 2, 2, 7)]])
        self.assertEqual(found.waits, [])

    def test_one_leaves_as_another_comes(self):
        for order in (1, -1):
            rows = [fixed("x", 0, ("a", 3), ("b", 4)), fixed("y", 3, ("a", 2))][::order]
            self.assertEqual(run_fixed(*rows).waits, [])
            rows = [fixed("x", 0, ("a", 3), ("b", 3)), fixed("y", 0, ("b", 3), ("a", 3))][::order]
            self.assertEqual(run_fixed(*rows).waits, [])
            rows = [fixed("x", 0, ("a", 4), ("b", 4)), fixed("y", 3, ("a", 2))][::order]
            self.assertEqual(run_fixed(*rows).waits, [("y", 1, "a", 3, 4)])

    def test_two_come_at_the_same_moment(self):
        one, other = fixed("x", 0, ("b", 3), ("a", 4)), fixed("y", 1, ("c", 2), ("a", 5))
        self.assertEqual(run_fixed(one, other).waits, [("y", 2, "a", 3, 7)])
        self.assertEqual(run_fixed(other, one).waits, [("x", 2, "a", 3, 8)])

    def test_three_and_more_in_a_queue(self):
        rows = [fixed("v", 0, ("a", 10)), fixed("w", 3, ("a", 2)), fixed("x", 1, ("a", 3)), fixed("y", 2, ("a", 4)),
                fixed("z", 2, ("a", 1)), fixed("u", 14, ("a", 1))]
        found = run_fixed(*rows)
        self.assertEqual(found.waits, [("x", 1, "a", 1, 10), ("y", 1, "a", 2, 13), ("z", 1, "a", 2, 17),
                                       ("w", 1, "a", 3, 18), ("u", 1, "a", 14, 20)])
        self.assertEqual(found.walks, [[("a", 0, 0, 10)], [("a", 3, 18, 20)], [("a", 1, 10, 13)], [("a", 2, 13, 17)],
                                       [("a", 2, 17, 18)], [("a", 14, 20, 21)]])

    def test_a_group_that_comes_to_its_room_again(self):
        again, other = fixed("x", 0, ("a", 2), ("a", 3)), fixed("y", 1, ("a", 1))
        for rows in ((again, other), (other, again)):
            self.assertEqual(run_fixed(*rows).waits, [("y", 1, "a", 1, 2), ("x", 2, "a", 2, 3)])
        late = fixed("y", 2, ("a", 1))
        self.assertEqual(run_fixed(again, late).waits, [("y", 1, "a", 2, 5)])
        self.assertEqual(run_fixed(late, again).waits, [("x", 2, "a", 2, 3)])
        self.assertEqual(run_fixed(again).walks, [[("a", 0, 0, 2), ("a", 2, 2, 5)]])
        third = fixed("z", 1, ("a", 1))
        self.assertEqual(run_fixed(again, other, third).waits,
                         [("y", 1, "a", 1, 2), ("z", 1, "a", 1, 3), ("x", 2, "a", 2, 4)])

    def test_the_hall(self):
        rows = [fixed(f"g{k}", k % 3, ("hall", 5), ("hall", 2)) for k in range(14)]
        found = run_fixed(*rows)
        self.assertEqual(found.waits, [])
        self.assertEqual(found.walks, [[("hall", k % 3, k % 3, k % 3 + 5), ("hall", k % 3 + 5, k % 3 + 5, k % 3 + 7)]
                                       for k in range(14)])

    def test_waits_that_make_and_avoid_later_waits(self):
        # Without its wait for a the group y would be in b before z comes.
        rows = [fixed("x", 0, ("a", 5)), fixed("y", 1, ("a", 2), ("b", 2)), fixed("z", 6, ("b", 3))]
        self.assertEqual(run_fixed(*rows).waits, [("y", 1, "a", 1, 5), ("y", 2, "b", 7, 9)])
        self.assertEqual(run_fixed(*rows[1:]).waits, [])
        # Without its wait for a it would be in b as z comes.
        rows = [fixed("x", 0, ("a", 5)), fixed("y", 1, ("a", 2), ("b", 4)), fixed("z", 4, ("b", 2))]
        self.assertEqual(run_fixed(*rows).waits, [("y", 1, "a", 1, 5)])
        self.assertEqual(run_fixed(*rows[1:]).waits, [("z", 1, "b", 4, 7)])

    def test_waits_that_begin_at_the_same_moment(self):
        rows = [fixed("v", 2, ("b", 1)), fixed("w", 0, ("a", 5)), fixed("x", 2, ("a", 1)), fixed("y", 0, ("b", 9)),
                fixed("z", 1, ("a", 1))]
        self.assertEqual(run_fixed(*rows).waits,
                         [("z", 1, "a", 1, 5), ("v", 1, "b", 2, 9), ("x", 1, "a", 2, 6)])

    def test_names(self):
        rows = [fixed("", 0, ("a", 5)), fixed("No name!", 0, ("a", 1)), fixed("", 0, ("a", 1)), fixed("", 0, ("b", 1))]
        self.assertEqual(run_fixed(*rows).waits, [("No name!", 1, "a", 0, 5), ("", 1, "a", 0, 6)])

    def test_starts_far_apart_and_large_numbers(self):
        rows = [fixed("x", -HUGE, ("a", 2 * HUGE), ("b", HUGE)), fixed("y", HUGE - 1, ("a", 5), ("b", 7)),
                fixed("z", 9 * HUGE, ("a", 1))]
        found = run_fixed(*rows)
        self.assertEqual(found.waits, [("y", 1, "a", HUGE - 1, HUGE), ("y", 2, "b", HUGE + 5, 2 * HUGE)])
        self.assertEqual(found.walks, [[("a", -HUGE, -HUGE, HUGE), ("b", HUGE, HUGE, 2 * HUGE)],
                                       [("a", HUGE - 1, HUGE, HUGE + 5), ("b", HUGE + 5, 2 * HUGE, 2 * HUGE + 7)],
                                       [("a", 9 * HUGE, 9 * HUGE, 9 * HUGE + 1)]])

    def test_fourteen_groups_with_large_numbers(self):
        rows = [fixed(f"g{k}", -k, ("a", HUGE), ("hall", k + 1), ("b", HUGE + k)) for k in range(14)]
        found = run_fixed(*rows)
        self.assertEqual([found.walks[13][0], found.walks[12][0]],
                         [("a", -13, -13, HUGE - 13), ("a", -12, HUGE - 13, 2 * HUGE - 13)])
        self.assertEqual(found.walks[0][0], ("a", 0, 13 * HUGE - 13, 14 * HUGE - 13))
        self.assertEqual([wait[0] for wait in found.waits if wait[1] == 1], [f"g{k}" for k in range(12, -1, -1)])

    def test_lengths_that_lie_between_the_ends(self):
        tour = Round([("a", 2, 9), ("b", 1, 5)])
        found = run([("x", tour, 0), ("y", tour, 1)], [[4, 3], [2, 1]])
        self.assertEqual(found.walks, [[("a", 0, 0, 4), ("b", 4, 4, 7)], [("a", 1, 4, 6), ("b", 6, 7, 8)]])
        self.assertEqual(found.waits, [("y", 1, "a", 1, 4), ("y", 2, "b", 6, 7)])

    def test_against_a_house_minute_by_minute(self):
        starts = [(0, 0, 0), (0, 1, 2), (3, 0, -2), (-1, 4, 1), (2, 2, 0)]
        for turn, stays in enumerate(combinations(TOURS, 3)):
            for shift in range(2):
                groups = [(f"g{k}", stays[k], starts[(turn + shift) % 5][k]) for k in range(3)]
                lengths = [all_lengths(each)[(turn * 7 + shift * 5) % len(all_lengths(each))] for each in stays]
                self.compare(groups, lengths)

    def test_many_groups_against_a_house_minute_by_minute(self):
        for many in (4, 7, 11, 14):
            for turn in range(14):
                stays = (TOURS[turn:] + TOURS[:turn])[:many]
                groups = [("ab"[k % 2], stays[k], (k * turn) % 11 - 5) for k in range(many)]
                self.compare(groups, [all_lengths(each)[turn % len(all_lengths(each))] for each in stays])

    def compare(self, groups, lengths):
        """Compare with a house that is looked at minute by minute, and with the plain walks."""
        found = run(rounds_of(groups), lengths)
        walks = counted_run(groups, lengths)
        with self.subTest(groups=groups, lengths=lengths):
            self.assertEqual(found.walks, walks)
            self.assertEqual(found.waits, counted_waits(groups, walks))
            plain = [places(steps_of(stays, start, row)) for (_, stays, start), row in zip(groups, lengths)]
            common = set().union(*[one & other for one, other in combinations(plain, 2)])
            first = [come for _, _, _, come, _ in found.waits][:1]
            self.assertEqual(first, [moment for moment, _ in sorted(common)][:1])

    def test_the_arguments_stay_as_they_are(self):
        tour = Round([("a", 2, 9), ("b", 1, 5)])
        groups, lengths = [("x", tour, 0), ("y", tour, 1)], [[4, 3], [2, 1]]
        found = run(groups, lengths)
        self.assertEqual([groups, lengths], [[("x", tour, 0), ("y", tour, 1)], [[4, 3], [2, 1]]])
        found.walks.clear()
        found.waits.clear()
        again = run(groups, lengths)
        self.assertEqual([len(again.walks), len(again.waits)], [2, 2])


class RefusalTest(unittest.TestCase):
    TOUR = Round([("a", 2, 4), ("b", 3, 3)])

    def refuse(self, error, value, groups, lengths):
        with self.subTest(groups=len(groups), lengths=lengths):
            with self.assertRaises(error) as caught:
                run(groups, lengths)
            self.assertIs(type(caught.exception), error)
            kept = caught.exception.count if error is BadCount else caught.exception.step
            self.assertEqual(kept, value)

    def groups(self, many):
        return [("x", self.TOUR, 9 * k) for k in range(many)]

    def test_too_many_groups(self):
        self.assertEqual(len(run(self.groups(14), [[2, 3]] * 14).walks), 14)
        for lengths in ([[2, 3]] * 15, [[2, 3]] * 14, [], [[]] * 15, [[2, 3]] * 16):
            self.refuse(BadCount, 15, self.groups(15), lengths)
        self.refuse(BadCount, 40, self.groups(40), [[2, 3]] * 40)

    def test_the_number_of_lists(self):
        for many, given in ((0, 1), (1, 0), (1, 2), (3, 2), (3, 4), (14, 13), (14, 15), (2, 0)):
            self.refuse(BadCount, given, self.groups(many), [[2, 3]] * given)
            self.refuse(BadCount, given, self.groups(many), [[]] * given)

    def test_lengths_that_do_not_fit(self):
        for wrong, step in (([], 0), ([2], 0), ([2, 3, 3], 0), ([1, 3], 1), ([5, 3], 1), ([2, 2], 2), ([4, 4], 2),
                            ([0, 0], 1), ([HUGE, 3], 1), ([2, -HUGE], 2)):
            self.refuse(BadLengths, step, self.groups(1), [wrong])
            self.refuse(BadLengths, step, self.groups(3), [[2, 3], wrong, [4, 3]])
            self.refuse(BadLengths, step, self.groups(3), [wrong, [1, 1], []])
            self.refuse(BadLengths, step, self.groups(3), [[2, 3], [2, 3], wrong])
        self.refuse(BadLengths, 2, self.groups(3), [[2, 3], [2, 2], []])
        self.refuse(BadLengths, 0, self.groups(3), [[2, 3], [2], [1, 3]])


if __name__ == "__main__":
    unittest.main()
