"""Deeds that are taken back and done again: points 39 and 40; long lines of deeds beside a plain list of states."""

import random
import unittest

from desks import PlainDesk, Wrong
from neverrounds.clocks import Clock, Day, Ring
from neverrounds.desk import Desk
from neverrounds.errors import Full, NothingToRedo, NothingToUndo, RoundsError, TooFew
from neverrounds.rounds import Round

FIVE = Round([("a", 5, 5)])
CLOCKS = {"clock": Clock, "day": Day, "ring": Ring}
TOURS = [
    [("a", 2, 3)],
    [("b", 1, 4)],
    [("hall", 1, 2)],
    [("a", 1, 2), ("b", 2, 2)],
    [("b", 1, 1), ("hall", 2, 4), ("a", 1, 3)],
    [("c", 3, 5), ("c", 1, 1)],
    [("a", 1, 1), ("hall", 5, 6), ("a", 1, 1)],
]


def state(desk):
    return [desk.limit, desk.closings(), desk.groups()]


class UndoTest(unittest.TestCase):
    def deeds(self):
        """A deed of each kind, with what it does to a desk."""
        return [
            lambda desk: desk.book("gold", FIVE, 50),
            lambda desk: desk.book_all([("gold", FIVE, 50), ("grey", FIVE, 60)]),
            lambda desk: desk.cancel("red"),
            lambda desk: desk.move("red", 30),
            lambda desk: desk.__setitem__("red", 30),
            lambda desk: desk.close("c", 0, 5),
            lambda desk: desk.change_limit(5),
            lambda desk: setattr(desk, "limit", 5),
        ]

    def made(self):
        desk = Desk(Day(100), ("a", 90, 10), limit=7)
        desk.book("red", FIVE, 0)
        desk.book("blue", FIVE, 10)
        return desk

    def check_ends(self, desk):
        """Undo to the first state and beyond, then redo to the last one and beyond."""
        states = [state(desk)]
        while True:
            try:
                desk.undo()
            except NothingToUndo:
                break
            states.append(state(desk))
        with self.assertRaises(NothingToUndo):
            desk.undo()
        self.assertEqual(state(desk), states[-1])
        for before in states[-2::-1]:
            desk.redo()
            self.assertEqual(state(desk), before)
        with self.assertRaises(NothingToRedo) as caught:
            desk.redo()
        self.assertIs(type(caught.exception), NothingToRedo)
        self.assertEqual(state(desk), states[0])
        return len(states) - 1

    def test_each_kind(self):
        for deed in self.deeds():
            desk = self.made()
            before = state(desk)
            deed(desk)
            after = state(desk)
            self.assertNotEqual(before, after)
            for _ in range(3):
                desk.undo()
                self.assertEqual(state(desk), before)
                desk.redo()
                self.assertEqual(state(desk), after)
            self.assertEqual(self.check_ends(desk), 3)

    def test_several_in_a_row(self):
        desk = self.made()
        for deed in (0, 3, 5, 6, 2):
            self.deeds()[deed](desk)
        self.assertEqual(self.check_ends(desk), 7)

    def test_a_deed_forgets_what_is_taken_back(self):
        for deed in self.deeds():
            desk = self.made()
            desk.move("blue", 20)
            desk.move("blue", 25)
            desk.undo()
            desk.undo()
            deed(desk)
            after = state(desk)
            with self.assertRaises(NothingToRedo):
                desk.redo()
            self.assertEqual(state(desk), after)
            self.assertEqual(self.check_ends(desk), 3)

    def test_a_deed_that_changes_nothing(self):
        for deed in (lambda desk: desk.move("red", 0), lambda desk: desk.change_limit(7),
                     lambda desk: setattr(desk, "limit", 7), lambda desk: desk.__setitem__("red", 0)):
            desk = self.made()
            desk.cancel("blue")
            desk.undo()
            before = state(desk)
            deed(desk)
            self.assertEqual(state(desk), before)
            with self.assertRaises(NothingToRedo):
                desk.redo()
            desk.undo()
            self.assertEqual(state(desk), before)
            desk.undo()
            self.assertEqual(list(desk), ["red"])

    def test_a_deed_that_raises_forgets_nothing(self):
        for deed in (lambda desk: desk.book("Red", FIVE, 0), lambda desk: desk.book("gold", FIVE, 0),
                     lambda desk: desk.book_all([("gold", FIVE, 50), ("gold", FIVE, 60)]),
                     lambda desk: desk.cancel("gold"), lambda desk: desk.move("red", 90),
                     lambda desk: desk.__setitem__("gold", 0), lambda desk: desk.close("hall", 0, 1),
                     lambda desk: desk.change_limit(0), lambda desk: setattr(desk, "limit", 9),
                     lambda desk: Desk(Day(1), limit=0)):
            desk = self.made()
            desk.move("blue", 20)
            after = state(desk)
            desk.undo()
            with self.assertRaises(RoundsError):
                deed(desk)
            desk.redo()
            self.assertEqual(state(desk), after)
            self.assertEqual(self.check_ends(desk), 3)

    def test_questions_are_no_deeds(self):
        desk = self.made()
        desk.undo()
        for question in (desk.groups, desk.closings, lambda: desk["red"], lambda: "red" in desk, lambda: len(desk),
                         lambda: list(desk), lambda: desk.safe_starts(FIVE), lambda: desk.run({"red": [5]}),
                         lambda: desk.group("red"), lambda: desk.limit, lambda: desk.book_all([])):
            question()
        desk.redo()
        self.assertEqual(self.check_ends(desk), 2)

    def test_the_closings_of_the_constructor_are_no_deeds(self):
        desk = Desk(Day(100), ("a", 0, 5), ("b", 0, 5))
        with self.assertRaises(NothingToUndo) as caught:
            desk.undo()
        self.assertIs(type(caught.exception), NothingToUndo)
        self.assertEqual(caught.exception.reason, "nothing")
        desk.close("c", 0, 5)
        self.assertEqual(self.check_ends(desk), 1)

    def test_what_was_taken_back_counts_no_more(self):
        desk = Desk(Day(100), limit=1)
        desk.book("red", FIVE, 0)
        with self.assertRaises(Full):
            desk.book("blue", FIVE, 10)
        desk.undo()
        desk.book("blue", FIVE, 0)
        self.assertEqual(list(desk), ["blue"])
        desk.change_limit(2)
        desk.book("red", FIVE, 5)
        with self.assertRaises(TooFew):
            desk.change_limit(1)
        desk.undo()
        desk.change_limit(1)
        self.assertEqual(self.check_ends(desk), 3)

    def test_a_thousand_deeds(self):
        desk = self.made()
        for start in range(1000):
            desk.move("blue", 10 + start % 70)
        self.assertEqual(self.check_ends(desk), 1002)


class PlainStatesTest(unittest.TestCase):
    """Long lines of deeds, at the desk and at a plain list of states."""

    def told(self, call, *arguments):
        """The name of the error that a call raises, and its argument; an empty list if it raises none."""
        try:
            self.assertIsNone(call(*arguments))
        except RoundsError as error:
            values = [value for name, value in vars(error).items() if name != "reason"]
            return [type(error).__name__] + values
        except Wrong as wrong:
            return wrong.told
        return []

    def calls(self, chance):
        """One deed with arguments of which some are wrong; rounds stand as lists of stays."""
        def start():
            return chance.randint(-4, 36)

        def row():
            name = chance.choice(["red", "blue", "green", "gold", "grey", "pink", "Red", ""])
            return name, chance.choice(TOURS), start()

        word = chance.choice(["book"] * 5 + ["book_all", "cancel", "move", "move", "__setitem__", "close", "close",
                                             "change_limit", "limit", "undo", "undo", "undo", "redo", "redo"])
        if word == "book":
            return word, row()
        if word == "book_all":
            return word, ([row() for _ in range(chance.randint(0, 3))],)
        if word == "cancel":
            return word, (row()[0],)
        if word in ("move", "__setitem__"):
            return word, (row()[0], start())
        if word == "close":
            return word, (chance.choice(["a", "b", "c", "d", "hall", "A"]), start(), chance.randint(-1, 6))
        if word in ("change_limit", "limit"):
            return word, (chance.randint(-1, 10),)
        return word, ()

    def do_both(self, desk, plain, word, arguments):
        """The errors of one deed at both desks."""
        if word == "book":
            name, stays, start = arguments
            return self.told(desk.book, name, Round(stays), start), self.told(plain.book, name, stays, start)
        if word == "book_all":
            rows = [(name, Round(stays), start) for name, stays, start in arguments[0]]
            return self.told(desk.book_all, rows), self.told(plain.book_all, arguments[0])
        if word == "limit":
            return self.told(setattr, desk, "limit", *arguments), self.told(plain.change_limit, *arguments)
        plain_word = "move" if word == "__setitem__" else word
        return self.told(getattr(desk, word), *arguments), self.told(getattr(plain, plain_word), *arguments)

    def check_line(self, word, seed):
        chance = random.Random(seed)
        length = chance.randint(8, 40)
        desk, plain = Desk(CLOCKS[word](length)), PlainDesk(word, length)
        seen = set()
        for _ in range(150):
            deed, arguments = self.calls(chance)
            one, other = self.do_both(desk, plain, deed, arguments)
            self.assertEqual(one, other, (word, length, deed, arguments))
            closings, groups, limit = plain.state
            self.assertEqual(desk.closings(), closings)
            self.assertEqual([(name, tour.stays, start) for name, tour, start in desk.groups()], groups)
            self.assertEqual(desk.limit, limit)
            seen.add((deed, *one[:1]))
        return seen

    def test_long_lines_of_deeds(self):
        for word in CLOCKS:
            seen = set().union(*[self.check_line(word, seed) for seed in range(12)])
            for deed, errors in (("book", ["BadName", "NameTaken", "Full", "NotFitting", "Closed", "Clash"]),
                                 ("close", ["BadName", "BadStay", "NotFitting", "Closed", "Clash"]),
                                 ("move", ["UnknownGroup", "NotFitting", "Closed", "Clash"]),
                                 ("change_limit", ["BadLimit", "TooFew"]), ("undo", ["NothingToUndo"]),
                                 ("redo", ["NothingToRedo"]), ("cancel", ["UnknownGroup"])):
                self.assertIn((deed,), seen)
                for error in errors:
                    if error != "NotFitting" or word == "day":
                        self.assertIn((deed, error), seen)


if __name__ == "__main__":
    unittest.main()
