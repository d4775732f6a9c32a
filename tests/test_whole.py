"""What the document promises over the whole program: points 1, 2, 3, 14 and 36, and how the modules go together."""

import copy
import random
import unittest
from itertools import combinations, product

from counting import TOURS, all_lengths, places, steps_of
from large import HUGE, LARGE, LONG, OTHER, STEEP
from neverrounds.board import board
from neverrounds.certificates import Alibi, Avoidance, Certificate, Meeting, Trap
from neverrounds.clocks import Clock, Day, Ring
from neverrounds.console import Console, answers
from neverrounds.desk import Desk
from neverrounds.errors import Clash, Closed, NotFitting, Refused, RoundsError
from neverrounds.figures import is_name, read_number, write_number
from neverrounds.finding import alibi, avoidance, meeting, trap
from neverrounds.gaps import least_gap
from neverrounds.house import run
from neverrounds.judge import judge, parting
from neverrounds.lags import spare_lag
from neverrounds.meets import least_lag, may_meet, visits
from neverrounds.moments import Moments
from neverrounds.placing import Closing, Group, Timed
from neverrounds.plain import every_lengths, plain_word
from neverrounds.rounds import Round
from neverrounds.shadows import compare, probe
from neverrounds.stairs import can_avoid, escape_sets, reach_sets, surely_meet
from neverrounds.texts import read_desk, read_moments, write_desk, write_moments, write_round
from neverrounds.waits import first_waits
from neverrounds.walks import shared, walk
from neverrounds.wishes import most_groups, tree_bound

FIRST = Round([("east", 10, 12), ("west", 5, 8), ("hall", 1, 2), ("east", 1, 1)])
SECOND = Round([("west", 3, 4), ("east", 2, 9)])
CLOCKS = (Clock, Day, Ring)


def plain(value):
    """A value with all that it holds, in lists, texts and numbers, so that it can be compared."""
    if value is None or type(value) in (int, str, bool):
        return value
    if type(value) in (list, tuple):
        return [type(value).__name__] + [plain(each) for each in value]
    if type(value) is dict:
        return ["dict"] + [[plain(key), plain(each)] for key, each in value.items()]
    return [type(value).__name__, plain(vars(value))]


def numbers_in(value):
    """The types of all that a plain value holds."""
    if type(value) is list:
        return set().union(*[numbers_in(each) for each in value])
    return {type(value)}


def spoil(value):
    """Change all lists and dicts that a value is or holds, as a caller may."""
    if type(value) in (list, tuple):
        for each in value:
            spoil(each)
    if type(value) is dict:
        for each in value.values():
            spoil(each)
    if type(value) in (list, dict):
        value.clear()


def questions(first, second, apart, clock):
    """Calls about two rounds, each with its arguments."""
    one, other = walk(first, 0, [least for _, least, _ in first]), walk(second, apart, [most for _, _, most in second])
    groups = [("red", first, 0), ("blue", second, apart), ("red", first, 3)]
    lengths = [[least for _, least, _ in tour] for _, tour, _ in groups]
    wishes = [("red", first, 0), ("", second, apart), ("green", first, 4)]
    return [
        (walk, first, apart, lengths[0]), (shared, one, other), (may_meet, first, second),
        (least_lag, first, second, apart), (escape_sets, first, second), (reach_sets, first, second, apart),
        (can_avoid, first, second, apart), (surely_meet, first, second), (meeting, first, second, apart),
        (alibi, first, second, apart), (avoidance, first, second, apart), (trap, first, second, apart),
        (judge, first, second, apart), (parting, first, second), (run, groups, lengths),
        (first_waits, first, second, apart), (spare_lag, first, second, apart), (probe, first, second),
        (compare, first, second), (most_groups, clock, wishes), (write_round, first),
        (write_moments, may_meet(first, second)), (Round.lagging, first, 5), (Round.allows, first, lengths[0]),
        (Round.window, first, 1), (Round.__call__, first, apart), (Clock.words, clock),
        (clock.placed, apart), (clock.fits, first, apart), (clock.can_meet, first, second, apart),
        (clock.meets, may_meet(first, second), apart), (clock.verdict, parting(first, second), apart),
        (clock.widest_gap, first, 3), (Timed(first, apart).where, apart), (is_name, "red"), (write_number, apart),
        (read_number, str(apart)), (tree_bound, most_groups(clock, wishes).tree),
        (Round.rooms.fget, first), (Round.stays.fget, first), (Moments.spans.fget, may_meet(first, second)),
    ]


PREDICATES = {"can_avoid", "allows", "fits", "can_meet", "meets", "is_name"}
OBJECTS = {"Run", "Choice", "Verdict", "FirstWait", "Parting", "Meeting", "Alibi", "Avoidance", "Trap"}


class PointTwoTest(unittest.TestCase):
    def check(self, first, second, apart, clock):
        for call, *given in questions(first, second, apart, clock):
            with self.subTest(call=call.__name__, apart=apart):
                before = plain(given)
                found = call(*given)
                self.assertEqual(plain(given), before)
                told = plain(found)
                self.assertEqual(plain(call(*given)), told)
                self.assertLessEqual(numbers_in(told) - {int, str, type(None)},
                                     {bool} if call.__name__ in PREDICATES else set())
                if call.__name__ in PREDICATES:
                    self.assertIs(type(found), bool)
                if type(found).__name__ not in OBJECTS:
                    spoil(found)
                    self.assertEqual(plain(given), before)
                    self.assertEqual(plain(call(*given)), told)

    def test_arguments_stay_and_results_are_new(self):
        for kind in CLOCKS:
            for apart in (-8, 0, 9, 14, 40):
                self.check(FIRST, SECOND, apart, kind(60))
                self.check(SECOND, FIRST, apart, kind(60))

    def test_with_large_numbers(self):
        for kind in CLOCKS:
            for first, second in ((LONG, OTHER), (STEEP, LONG)):
                for apart in (0, -HUGE, HUGE + 1, 9 * HUGE):
                    self.check(first, second, apart, kind(100 * HUGE))

    def test_sixty_digits(self):
        most = 10 ** 60 - 1
        first, second = Round([("a", 1, most), ("hall", most, most), ("b", 1, most)]), Round([("b", most, most)] * 2)
        for apart in (0, most, -most):
            for kind in CLOCKS:
                self.check(first, second, apart, kind(most))
        for kind in CLOCKS:
            desk = Desk(kind(most), ("b", 0, 5))
            desk.book("red", Round([("b", 1, most - 10)]), 10)
            self.assertEqual(least_gap(kind(most), Round([("b", 1, most // 3)]), 3).gap, most // 3)
            self.assertEqual(desk.safe_starts(Round([("b", 3, 5)])).spans, [(5, 5)])
            self.assertEqual(board(desk)[0].split(), ["red", "10", str(most)])

    def test_two_generators_side_by_side(self):
        one, other = visits(FIRST, SECOND), visits(FIRST, SECOND)
        rows = list(visits(FIRST, SECOND))
        self.assertEqual([next(one), next(other), next(one)], [rows[0], rows[0], rows[1]])
        lengths, more = every_lengths(SECOND), every_lengths(SECOND)
        next(lengths).clear()
        self.assertEqual([next(more), next(lengths)], [[3, 2], [3, 3]])

    def test_lists_that_are_changed_later(self):
        stays = [("a", 1, 2)]
        pairs = [(1, 2)]
        rows = [("east", Moments.none(), Moments.none())]
        lengths = [[1], [2]]
        cells = [(1, 1, Moments.none())]
        tour, moments = Round(stays), Moments(pairs)
        made = [tour, moments, Alibi(tour, tour, 0, rows), Avoidance(tour, tour, 0, *lengths),
                Meeting(tour, tour, 0, *lengths, "a", 0), Trap(tour, tour, 0, cells)]
        before = plain(made)
        for given in (stays, pairs, rows, cells, *lengths):
            given.append(None)
        self.assertEqual(plain(made), before)

    def test_only_desks_and_consoles_change(self):
        desk = Desk(Day(60), ("a", 0, 5))
        clock, rounds = desk.clock, [FIRST, SECOND]
        before = plain([clock, rounds])
        desk.book("red", FIRST, 0)
        group = desk.group("red")
        told = plain(group)
        desk.move("red", 5)
        desk.undo()
        desk.run({"red": [10, 5, 1, 1]})
        write_desk(desk)
        least_gap(clock, FIRST, 2)
        desk.cancel("red")
        self.assertEqual(plain([clock, rounds]), before)
        self.assertEqual(plain(group), told)

    def test_no_questions_change_a_desk(self):
        desk = Desk(Ring(60), ("a", 0, 5))
        desk.book("red", FIRST, 0)
        desk.book("blue", SECOND, 30)
        desk.undo()
        before = plain(copy.deepcopy(desk))
        for question in (desk.groups, desk.closings, lambda: desk.group("red"), lambda: desk.safe_starts(SECOND),
                         lambda: desk.run({"red": [10, 5, 1, 1]}), lambda: board(desk), lambda: write_desk(desk),
                         lambda: desk["red"], lambda: "red" in desk, lambda: list(desk), lambda: desk.limit):
            question()
            self.assertEqual(plain(desk), before)


class PointThreeTest(unittest.TestCase):
    def test_any_number_may_be_in_the_hall(self):
        tour = Round([("hall", 3, 9)])
        self.assertEqual(judge(tour, tour, 0).word, "never")
        self.assertEqual(run([(str(k), tour, 0) for k in range(14)], [[3]] * 14).waits, [])
        self.assertEqual(most_groups(Day(9), [(str(k), tour, 0) for k in range(10)]).places, list(range(1, 11)))
        self.assertEqual(least_gap(Ring(9), tour, 10).gap, 1)
        desk = Desk(Day(9))
        desk.book_all([(f"g{k}", tour, 0) for k in range(8)])
        self.assertEqual(desk.safe_starts(tour).spans, [(0, 0)])
        self.assertEqual(tour(0), {})
        self.assertEqual(compare(tour, Round([("hall", 1, 1)])), "alike")
        self.assertEqual(Timed(tour, 0).where(3), ["hall"])

    def test_a_name_of_each_kind(self):
        for name, fine in (("a", True), ("hall", True), ("z9", True), ("abcdefghijkl", True), ("abcdefghijklm", False),
                           ("", False), ("9z", False), ("aB", False), ("a b", False), ("a\u00e9", False)):
            told = [is_name(name)]
            for made in (lambda: Round([(name, 1, 1)]), lambda: Group(name, FIRST, 0), lambda: Closing(name, 0, 1),
                         lambda: Desk(Day(60)).book(name, FIRST, 0)):
                try:
                    made()
                    told.append(True)
                except RoundsError:
                    told.append(False)
            self.assertEqual(told, [fine] * 5)


class TogetherTest(unittest.TestCase):
    def test_all_ways_to_a_word(self):
        for one, other in product(TOURS[:9], repeat=2):
            first, second = Round(one), Round(other)
            found = parting(first, second)
            for apart in range(-14, 15, 2):
                word = plain_word(first, second, apart)
                met = least_lag(first, second, apart)
                ways = [judge(first, second, apart).word, found(apart), Clock(1).verdict(found, apart),
                        "never" if met is None else "maybe" if can_avoid(first, second, apart) else "surely"]
                self.assertEqual(ways, [word] * 4)
                kinds = [meeting(first, second, apart), alibi(first, second, apart), avoidance(first, second, apart),
                         trap(first, second, apart)]
                self.assertEqual([kind is not None for kind in kinds],
                                 [word != "never", word == "never", word != "surely", word == "surely"])
                self.assertTrue(all(isinstance(kind, Certificate) and kind.holds() for kind in kinds if kind))
                self.assertEqual([spare_lag(first, second, apart) == -1, bool(first_waits(first, second, apart))],
                                 [word != "never"] * 2)

    def check_desk(self, desk):
        """No two of its groups and closings can share a room, on whatever turn of a ring, whatever the lengths are."""
        rows = [([(room, minutes, minutes)], start) for room, start, minutes in desk.closings()]
        rows = rows + [(tour.stays, start) for _, tour, start in desk.groups()]
        turns = range(-3, 4) if type(desk.clock) is Ring else [0]
        for (one, start), (other, later) in combinations(rows, 2):
            here = set().union(*[places(steps_of(one, start, lengths)) for lengths in all_lengths(one)])
            there = set().union(*[places(steps_of(other, later, lengths)) for lengths in all_lengths(other)])
            for turn in turns:
                moved = {(moment + turn * desk.clock.length, room) for moment, room in there}
                self.assertFalse(here & moved)

    def test_desks_keep_groups_apart(self):
        chance = random.Random(6)
        for kind in CLOCKS:
            for _ in range(40):
                desk = Desk(kind(chance.randint(14, 40)))
                for k in range(10):
                    try:
                        if k % 4 == 3:
                            desk.close(chance.choice("abc"), chance.randint(-5, 40), chance.randint(1, 6))
                        else:
                            desk.book(f"g{k}", Round(chance.choice(TOURS[:12])), chance.randint(-5, 40))
                    except Refused as refused:
                        self.assertIn(type(refused), (NotFitting, Closed, Clash))
                self.check_desk(desk)

    def test_a_row_with_the_least_gap_can_be_booked(self):
        for kind, stays, count in product(CLOCKS, TOURS, (2, 3, 5)):
            clock, tour = kind(40), Round(stays)
            gap = least_gap(clock, tour, count).gap if clock.fits(tour, 0) else None
            if gap is not None:
                rows = [(f"g{k}", tour, k * gap) for k in range(count)]
                desk = Desk(clock)
                desk.book_all(rows)
                self.assertEqual(len(most_groups(clock, rows).places), count)
                if gap > 1:
                    with self.assertRaises(Clash):
                        Desk(clock).book_all([(f"g{k}", tour, k * (gap - 1)) for k in range(count)])

    def test_a_choice_can_be_booked(self):
        for kind in CLOCKS:
            wishes = [(f"g{k}", Round(stays), 5 * k % 13) for k, stays in enumerate(TOURS[:10])]
            choice = most_groups(kind(20), wishes)
            desk = Desk(kind(20))
            desk.book_all([wishes[place - 1] for place in choice.places][:8])
            self.assertEqual(list(desk), choice.names[:8])

    def test_the_console_beside_the_modules(self):
        for word, kind in (("day", Day), ("ring", Ring)):
            clock, desk = kind(50), Desk(kind(50))
            lines = [f"{word} 50"] + [f"round r{k} {write_round(Round(stays))}" for k, stays in enumerate(TOURS)]
            told = ["ok"] * len(lines)
            for k, stays in enumerate(TOURS):
                start = 7 * k - 3
                lines += [f"starts r{k}", f"judge r{k} r1 {start}", f"book g{k} r{k} {start}", "list"]
                told += [write_moments(desk.safe_starts(Round(stays))),
                         clock.verdict(parting(Round(stays), Round(TOURS[1])), start)]
                try:
                    desk.book(f"g{k}", Round(stays), start)
                    told.append("ok")
                except Refused as refused:
                    told.append(f"refused {refused.reason}")
                told.append(", ".join(f"{name} {desk[name]}" for name in desk) or "none")
            self.assertEqual(list(answers(lines)), told)
            self.assertEqual(read_desk(write_desk(desk)).groups(), desk.groups())
            console = Console()
            self.assertEqual([console.answer(line) for line in lines], told)

    def test_sets_and_rounds_in_texts(self):
        for first, second in LARGE + [(Round(one), Round(other)) for one, other in product(TOURS, repeat=2)]:
            for moments in (may_meet(first, second), surely_meet(first, second), parting(first, second).maybe):
                self.assertEqual(read_moments(write_moments(moments)), moments)
            self.assertEqual(Round.read(write_round(first)), first)


if __name__ == "__main__":
    unittest.main()
