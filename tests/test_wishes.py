"""As many wishes as possible: points 34 and 35."""

import unittest
from itertools import combinations

from counting import TOURS, counted_words
from large import HUGE, LARGE
from neverrounds.clocks import Clock, Day, Ring
from neverrounds.errors import BadCount, NameTaken
from neverrounds.rounds import Round
from neverrounds.wishes import Choice, most_groups, tree_bound

FIVE = Round([("a", 5, 5)])
FREE = Round([("hall", 5, 5)])


def clashing(pairs, count):
    """Wishes that clash in these pairs only: each pair has a room of its own, which both visit at the same time."""
    wishes = []
    for place in range(1, count + 1):
        stays, minute = [], 0
        for at, pair in enumerate(pairs):
            if place in pair:
                # The room of a pair is visited at the minute of the pair; until then the group is in the hall.
                stays += [("hall", at - minute, at - minute)] * (at > minute) + [(f"room{at}", 1, 1)]
                minute = at + 1
        wishes.append((f"w{place}", Round(stays), 0))
    return wishes


def around_in_a_ring(count):
    """The pairs of neighbours in a ring of places."""
    return [(place, place % count + 1) for place in range(1, count + 1)]


class WishesTest(unittest.TestCase):
    def open_places(self, clock, wishes):
        return [place for place, (_, tour, start) in enumerate(wishes, start=1) if clock.fits(tour, start)]

    def clashes(self, clock, wishes, one, other):
        """Tell whether two places clash."""
        _, first, start = wishes[one - 1]
        _, second, later = wishes[other - 1]
        return clock.can_meet(first, second, later - start)

    def check_tree(self, tree, places, clash):
        """Look at each thing that is asked of a tree for some places, and return its bound."""
        self.assertIs(type(tree), tuple)
        if tree[0] == "cover":
            _, lists = tree
            self.assertIs(type(lists), list)
            for row in lists:
                self.assertIs(type(row), list)
                self.assertGreater(len(row), 0)
                for one, other in combinations(row, 2):
                    self.assertTrue(clash(one, other))
            self.assertEqual(sorted(place for row in lists for place in row), places)
            return len(lists)
        word, place, without, with_it = tree
        self.assertEqual(word, "split")
        self.assertIn(place, places)
        others = [other for other in places if other != place]
        left = self.check_tree(without, others, clash)
        right = self.check_tree(with_it, [other for other in others if not clash(place, other)], clash)
        return max(left, 1 + right)

    def check(self, clock, wishes, places=None):
        """The choice from some wishes, compared with all subsets of the open ones."""
        found = most_groups(clock, wishes)
        open_places = self.open_places(clock, wishes)

        def clash(one, other):
            return self.clashes(clock, wishes, one, other)

        fine = [list(chosen) for many in range(len(open_places) + 1) for chosen in combinations(open_places, many)
                if not any(clash(one, other) for one, other in combinations(chosen, 2))]
        best = min([chosen for chosen in fine if len(chosen) == max(map(len, fine))])
        with self.subTest(clock=clock.words(), wishes=[(name, tour.stays, start) for name, tour, start in wishes]):
            self.assertIs(type(found), Choice)
            self.assertEqual(found.places, best)
            self.assertEqual(found.names, [wishes[place - 1][0] for place in best])
            self.assertEqual([type(found.places), type(found.names)], [list, list])
            self.assertEqual(self.check_tree(found.tree, open_places, clash), len(best))
            self.assertEqual(tree_bound(found.tree), len(best))
            if places is not None:
                self.assertEqual(found.places, places)
        return found

    def test_a_choice_by_hand(self):
        places, names = [1, 3], ["red", "blue"]
        choice = Choice(places, names, ("cover", [[1], [3]]))
        places.clear()
        names.clear()
        self.assertEqual([choice.places, choice.names, choice.tree], [[1, 3], ["red", "blue"], ("cover", [[1], [3]])])

    def test_no_wishes(self):
        for clock in (Clock(5), Day(5), Ring(5)):
            found = self.check(clock, [], [])
            self.assertEqual([found.names, tree_bound(found.tree)], [[], 0])

    def test_one_wish(self):
        for clock in (Clock(5), Day(5), Ring(5)):
            self.assertEqual(self.check(clock, [("red", FIVE, 0)], [1]).names, ["red"])
            self.check(clock, [("red", Round([("a", 5, 6)]), 0)], [])
        self.check(Day(5), [("red", FIVE, 1)], [])
        self.check(Clock(5), [("red", FIVE, -7)], [1])

    def test_ten_wishes(self):
        self.check(Clock(5), [(f"w{k}", FIVE, 5 * k) for k in range(10)], list(range(1, 11)))
        self.check(Clock(5), [(f"w{k}", FIVE, k) for k in range(10)], [1, 6])
        self.check(Clock(5), [(f"w{k}", FIVE, 0) for k in range(10)], [1])
        self.check(Clock(5), [(f"w{k}", FREE, 0) for k in range(10)], list(range(1, 11)))

    def test_too_many_wishes(self):
        for count in (11, 12, 20):
            for names in ([f"w{k}" for k in range(count)], ["red"] * count):
                with self.assertRaises(BadCount) as caught:
                    most_groups(Clock(5), [(name, FIVE, 0) for name in names])
                self.assertIs(type(caught.exception), BadCount)
                self.assertEqual(caught.exception.count, count)

    def test_names_that_repeat(self):
        for names, taken in ((["red", "red"], "red"), (["a", "b", "c", "b", "a"], "b"), (["", "a", ""], ""),
                             (["a", "b", "b", "a", "c", "c", "d", "e", "f", "g"], "b")):
            for tour in (FIVE, Round([("a", 9, 9)])):
                with self.assertRaises(NameTaken) as caught:
                    most_groups(Clock(5), [(name, tour, 0) for name in names])
                self.assertIs(type(caught.exception), NameTaken)
                self.assertEqual([caught.exception.name, caught.exception.reason], [taken, f"taken {taken}"])

    def test_names_may_be_any_texts(self):
        names = ["", " ", "Red Group", "hall", "red, blue", "a-very-long-name-of-a-group", "\u00e4"]
        wishes = [(name, FIVE, 5 * k) for k, name in enumerate(names)]
        self.assertEqual(self.check(Clock(5), wishes).names, names)

    def test_wishes_that_do_not_fit(self):
        longer = Round([("a", 1, 6)])
        self.check(Clock(5), [("a", longer, 0), ("b", FIVE, 0), ("c", longer, 100)], [2])
        self.check(Day(10), [("a", FIVE, -1), ("b", FIVE, 5), ("c", FIVE, 6), ("d", FIVE, 0)], [2, 4])
        back = Round([("a", 2, 2), ("hall", 6, 6), ("a", 1, 1)])
        self.check(Ring(8), [("a", back, 0), ("b", Round([("a", 1, 1)]), 4)], [2])
        self.check(Day(4), [("a", FIVE, 0), ("b", FIVE, 9)], [])

    def test_all_clash_with_all(self):
        self.check(Clock(9), [(f"w{k}", Round([("a", 5, 5 + k)]), k) for k in range(5)], [1])

    def test_none_clash(self):
        self.check(Clock(9), [(f"w{k}", Round([(f"r{k}", 5, 9)]), 0) for k in range(10)], list(range(1, 11)))

    def test_the_least_of_several_greatest_choices(self):
        # 1 clashes with 2, 3 with 4: all of 1 3, 1 4, 2 3 and 2 4 are greatest choices.
        self.check(Clock(9), [("a", FIVE, 0), ("b", FIVE, 4), ("c", FIVE, 20), ("d", FIVE, 24)], [1, 3])
        # 1 clashes with 3 and 4, so it is not among the greatest choices.
        self.check(Clock(9), [("a", FIVE, 5), ("b", FREE, 0), ("c", FIVE, 1), ("d", FIVE, 9)], [2, 3, 4])
        # In the order 3 1 2 of the starts the last place comes first.
        self.check(Clock(9), [("a", FIVE, 4), ("b", FIVE, 8), ("c", FIVE, 0)], [2, 3])
        self.check(Clock(9), clashing([(1, 2), (2, 3), (3, 4)], 4), [1, 3])
        self.check(Clock(9), clashing([(1, 2), (1, 3), (2, 4), (3, 4)], 4), [1, 4])

    def test_turns_of_the_ring(self):
        self.check(Ring(10), [("a", FIVE, 0), ("b", FIVE, 10), ("c", FIVE, 25)], [1, 3])
        self.check(Ring(10), [("a", FIVE, -7), ("b", FIVE, 12), ("c", FIVE, 1003), ("d", FIVE, -2)], [1, 4])
        self.check(Day(20), [("a", FIVE, 0), ("b", FIVE, 10), ("c", FIVE, 15)], [1, 2, 3])
        self.check(Clock(10), [("a", FIVE, 0), ("b", FIVE, 10), ("c", FIVE, 25)], [1, 2, 3])
        self.check(Ring(HUGE), [("a", FIVE, 0), ("b", FIVE, 7 * HUGE + 4), ("c", FIVE, 5 - 3 * HUGE)], [1, 3])

    def test_clashes_in_a_ring_of_places(self):
        # No cover has as few lists as places can be chosen, so these trees split.
        for count in (5, 7):
            found = self.check(Clock(99), clashing(around_in_a_ring(count), count), list(range(1, count - 1, 2)))
            self.assertEqual(tree_bound(found.tree), count // 2)
            self.assertEqual(found.tree[0], "split")
        # Two rings of five places beside each other.
        pairs = around_in_a_ring(5) + [(one + 5, other + 5) for one, other in around_in_a_ring(5)]
        self.check(Clock(99), clashing(pairs, 10), [1, 3, 6, 8])
        # A ring of five places, each of which clashes with one more place outside.
        spokes = around_in_a_ring(5) + [(place, place + 5) for place in range(1, 6)]
        self.check(Clock(99), clashing(spokes, 10), [1, 3, 7, 9, 10])

    def test_against_all_subsets(self):
        for clock in (Clock(12), Day(30), Ring(23)):
            for shift in range(4):
                wishes = [(f"w{k}", Round(stays), (7 * k + shift * k * k) % 25)
                          for k, stays in enumerate(TOURS[shift:shift + 10])]
                self.check(clock, wishes)

    def test_clashes_against_all_lengths(self):
        for one in TOURS[:9]:
            for other in TOURS[:9]:
                met, _ = counted_words(one, other)
                for start in (-3, 0, 2, 5):
                    wishes = [("a", Round(one), 1), ("b", Round(other), start)]
                    self.check(Clock(20), wishes, [1] if start - 1 in met else [1, 2])

    def test_large_numbers(self):
        for first, second in LARGE:
            for clock in (Clock(10 ** 59), Day(10 ** 59), Ring(10 ** 59)):
                self.check(clock, [("a", first, 0), ("b", second, HUGE), ("c", first, 30 * HUGE), ("d", second, 7)])

    def test_the_wishes_stay_as_they_are(self):
        wishes = [("a", FIVE, 5), ("b", FIVE, 1), ("c", FREE, 0)]
        found = most_groups(Ring(9), wishes)
        self.assertEqual(wishes, [("a", FIVE, 5), ("b", FIVE, 1), ("c", FREE, 0)])
        found.places.clear()
        found.names.clear()
        self.assertEqual(most_groups(Ring(9), wishes).names, ["a", "c"])


class TreeBoundTest(unittest.TestCase):
    def test_covers(self):
        self.assertEqual(tree_bound(("cover", [])), 0)
        self.assertEqual(tree_bound(("cover", [[1, 2, 3]])), 1)
        self.assertEqual(tree_bound(("cover", [[1], [2, 5], [3], [4]])), 4)

    def test_splits(self):
        none, one, two = ("cover", []), ("cover", [[7]]), ("cover", [[7], [8]])
        for without, with_it, bound in ((none, none, 1), (one, none, 1), (two, none, 2), (none, one, 2), (none, two, 3),
                                        (one, one, 2), (two, one, 2), (one, two, 3)):
            self.assertEqual(tree_bound(("split", 1, without, with_it)), bound)

    def test_splits_inside_splits(self):
        three = ("cover", [[5], [6], [7]])
        inner = ("split", 2, ("cover", [[3]]), ("cover", [[4], [5]]))
        self.assertEqual(tree_bound(("split", 1, inner, ("cover", []))), 3)
        self.assertEqual(tree_bound(("split", 1, ("cover", []), inner)), 4)
        self.assertEqual(tree_bound(("split", 1, three, inner)), 4)
        self.assertEqual(tree_bound(("split", 1, inner, three)), 4)
        self.assertEqual(tree_bound(("split", 1, ("split", 2, three, ("cover", [])), ("cover", [[9]]))), 3)
        self.assertEqual(tree_bound(("split", 1, ("split", 2, ("cover", []), three), ("cover", [[9]]))), 4)

    def test_the_tree_stays_as_it_is(self):
        tree = ("split", 1, ("cover", [[2, 3]]), ("cover", [[3]]))
        tree_bound(tree)
        self.assertEqual(tree, ("split", 1, ("cover", [[2, 3]]), ("cover", [[3]])))


if __name__ == "__main__":
    unittest.main()
