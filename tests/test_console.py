"""The console: points 49 to 51."""

import unittest

from large import HUGE
from neverrounds.console import Console, answers

SIXTY = "123456789" + "0" * 50 + "7"
START = ["day 60", "round a east 10..12, west 5..8", "round b west 3..4"]
# Each command with right words; each of the last ones asks about a desk.
RIGHT = {
    "day": "day 60",
    "ring": "ring 60",
    "round": "round a east 1",
    "close": "close east 0 5",
    "book": "book red a 0",
    "cancel": "cancel red",
    "move": "move red 5",
    "limit": "limit 5",
    "undo": "undo",
    "redo": "redo",
    "starts": "starts a",
    "judge": "judge a b 9",
    "gap": "gap a 2",
    "list": "list",
}
AT_A_DESK = [command for command in RIGHT if command not in ("day", "ring", "round")]


class ConsoleTest(unittest.TestCase):
    def check(self, lines, told):
        """The answers of a new console, one by one and all at once."""
        console = Console()
        for line, answer in zip(lines, told, strict=True):
            with self.subTest(line):
                self.assertEqual(console.answer(line), answer)
        self.assertEqual(list(answers(lines)), told)
        return console

    def made(self, *lines):
        """A console with a day, two rounds and more lines, all of them right."""
        return self.check(START + list(lines), ["ok"] * (3 + len(lines)))

    def ask(self, console, *pairs):
        for line, answer in pairs:
            with self.subTest(line):
                self.assertEqual(console.answer(line), answer)


class AnswersTest(ConsoleTest):
    def test_the_example(self):
        self.check(START + ["book red a 0", "book blue b 12", "starts b", "judge a b 9"],
                   ["ok", "ok", "ok", "ok", "refused clash red", "0..6 20..56", "maybe"])

    def test_one_by_one(self):
        self.assertEqual(list(answers([])), [])
        self.assertEqual(list(answers(["list"])), ["no desk"])
        lines = ["day 60", "list", "bad"]
        yielded = answers(lines)
        self.assertEqual([next(yielded), next(yielded), next(yielded)], ["ok", "none", "bad"])
        with self.assertRaises(StopIteration):
            next(yielded)
        self.assertEqual(lines, ["day 60", "list", "bad"])

    def test_a_console_of_its_own(self):
        one, other = answers(["day 60", "list"]), answers(["list", "day 60"])
        self.assertEqual([next(one), next(other), next(one), next(other)], ["ok", "no desk", "none", "ok"])
        first, second = Console(), Console()
        self.ask(first, ("day 60", "ok"), ("round a a 1", "ok"), ("book red a 0", "ok"))
        self.ask(second, ("list", "no desk"), ("day 60", "ok"), ("book red a 0", "no round a"), ("list", "none"))

    def test_each_command_is_right_somewhere(self):
        console = self.made()
        for line in (RIGHT["day"], RIGHT["ring"], RIGHT["round"], "book red b 10", "move red 12", "undo", "redo",
                     "cancel red", "close east 0 5", "limit 5"):
            self.ask(console, (line, "ok"))


class DeskCommandsTest(ConsoleTest):
    def test_day_and_ring(self):
        for line in ("day 60", "ring 60", "day 1", f"ring {HUGE}", f"day {SIXTY}"):
            self.check([line, "list"], ["ok", "none"])
        for line in ("day 0", "ring 0", "day -5", "ring -1"):
            self.check([line, "list"], ["bad", "no desk"])
            self.ask(self.made("book red a 0"), (line, "bad"), ("list", "red 0"), ("undo", "ok"), ("list", "none"))

    def test_a_new_desk(self):
        console = self.made("limit 1", "close north 0 5", "book red a 0", "undo")
        self.ask(console, ("ring 70", "ok"), ("list", "none"), ("undo", "refused nothing"), ("redo", "refused nothing"),
                 ("starts b", "0..69"), ("book red a 0", "ok"), ("book blue b 30", "ok"), ("close north 0 5", "ok"))
        self.ask(console, ("day 60", "ok"), ("starts b", "0..56"), ("list", "none"))

    def test_the_limit_of_a_new_desk(self):
        console = self.made("limit 1", "day 60", "round c hall 1")
        self.ask(console, *[(f"book g{k} c 0", "ok") for k in range(8)], ("book g8 c 0", "refused full 8"))

    def test_close(self):
        console = self.made("book red a 0", "close north 0 5")
        self.ask(console, ("close north 4 5", "refused closed 1"), ("close east 0 5", "refused clash red"),
                 ("close south 56 5", "refused unfit"), ("close hall 0 5", "bad"), ("close South 0 5", "bad"),
                 ("close  0 5", "bad"), ("close south 0 0", "bad"), ("close south 0 -1", "bad"))
        self.ask(console, *[(f"close r{k} 0 5", "ok") for k in range(5)], ("close r5 0 5", "refused full 6"),
                 ("close hall 0 5", "bad"), ("close north 0 5", "refused full 6"))

    def test_book(self):
        console = self.made("close west 50 5", "book red a 0")
        self.ask(console, ("book red b 30", "refused taken red"), ("book blue a 41", "refused unfit"),
                 ("book blue b -1", "refused unfit"), ("book blue b 49", "refused closed 1"),
                 ("book blue b 12", "refused clash red"), ("book Blue b 30", "bad"), ("book  b 30", "bad"),
                 ("book blue b 30", "ok"), ("list", "red 0, blue 30"), ("limit 2", "ok"),
                 ("book green b 40", "refused full 2"), ("book red b 40", "refused taken red"))

    def test_cancel_and_move(self):
        console = self.made("close west 50 5", "book red b 0", "book blue b 10")
        self.ask(console, ("cancel gold", "refused unknown gold"), ("cancel ", "refused unknown "),
                 ("cancel Red", "refused unknown Red"), ("move gold 5", "refused unknown gold"),
                 ("move red 8", "refused clash blue"), ("move red 47", "refused closed 1"),
                 ("move red 57", "refused unfit"), ("move red -1", "refused unfit"), ("move red 20", "ok"),
                 ("list", "red 20, blue 10"), ("cancel red", "ok"), ("list", "blue 10"), ("cancel blue", "ok"),
                 ("list", "none"))

    def test_limit(self):
        console = self.made("book red b 0", "book blue b 10")
        self.ask(console, ("limit 1", "refused few 2"), ("limit 0", "bad"), ("limit 9", "bad"), ("limit -1", "bad"),
                 ("limit 2", "ok"), ("book gold b 20", "refused full 2"), ("limit 8", "ok"), ("book gold b 20", "ok"))

    def test_undo_and_redo(self):
        console = self.made("book red b 0", "book blue b 10")
        self.ask(console, ("redo", "refused nothing"), ("undo", "ok"), ("list", "red 0"), ("undo", "ok"),
                 ("list", "none"), ("undo", "refused nothing"), ("redo", "ok"), ("list", "red 0"), ("redo", "ok"),
                 ("redo", "refused nothing"), ("list", "red 0, blue 10"), ("undo", "ok"), ("limit 8", "ok"),
                 ("redo", "refused nothing"))

    def test_starts(self):
        console = self.made("round c east 61", "round d hall 60", "round e east 1, hall 58, east 1")
        self.ask(console, ("starts a", "0..40"), ("starts b", "0..56"), ("starts c", "none"), ("starts d", "0"),
                 ("starts e", "0"), ("ring 60", "ok"), ("starts a", "0..59"), ("starts c", "none"), ("starts e", "0..59"),
                 ("ring 59", "ok"), ("starts e", "none"), ("starts d", "none"))

    def test_judge(self):
        console = self.made()
        words = {6: "never", 7: "maybe", 9: "maybe", 10: "surely", 14: "surely", 15: "maybe", 19: "maybe", 20: "never",
                 70: "never", -50: "never"}
        self.ask(console, *[(f"judge a b {apart}", word) for apart, word in words.items()])
        self.ask(console, *[(f"judge b a {-apart}", word) for apart, word in words.items()])
        self.ask(console, ("judge a a 0", "surely"), ("ring 60", "ok"), ("judge a b 70", "surely"),
                 ("judge a b -50", "surely"), ("judge a b 67", "maybe"), ("judge a b 60", "never"),
                 (f"judge a b {60 * HUGE + 9}", "maybe"))

    def test_gap(self):
        console = self.made("round c east 2, hall 5, east 1", "round d east 61")
        self.ask(console, ("gap c 2", "2"), ("gap c 4", "4"), ("gap a 2", "12"), ("gap a 4", "12"), ("gap a 5", "none"),
                 ("gap d 2", "refused unfit"), ("gap c 1", "bad"), ("gap c 11", "bad"), ("gap c -2", "bad"),
                 ("gap d 1", "bad"), ("ring 60", "ok"), ("gap a 5", "12"), ("gap a 6", "none"))

    def test_list(self):
        console = self.made("round c hall 1")
        self.ask(console, ("list", "none"), ("book zebra c 5", "ok"), ("list", "zebra 5"), ("book ant c 7", "ok"),
                 ("list", "zebra 5, ant 7"), ("ring 60", "ok"), ("book red c -1", "ok"), ("book blue c 60", "ok"),
                 ("list", "red 59, blue 0"), ("close north 0 5", "ok"), ("list", "red 59, blue 0"))

    def test_large_numbers(self):
        console = Console()
        self.ask(console, (f"ring {20 * HUGE}", "ok"), (f"round a east {HUGE}..{3 * HUGE}, west 1", "ok"),
                 (f"book red a {-HUGE}", "ok"), ("list", f"red {19 * HUGE}"),
                 ("starts a", f"{2 * HUGE}..{16 * HUGE}"), (f"judge a a {HUGE}", "maybe"), ("gap a 2", f"{3 * HUGE}"),
                 (f"close east {2 * HUGE} 1", "ok"), ("starts a", f"{2 * HUGE + 1}..{16 * HUGE}"))


class RoundsTest(ConsoleTest):
    def test_rounds(self):
        for text in ("east 1", "east 1..2, hall 5", f"east 1..{SIXTY}", ", ".join(["hall 1"] * 6)):
            for name in ("a", "hall", "abcdefghijkl", "r2"):
                self.check([f"round {name} {text}"], ["ok"])

    def test_wrong_names(self):
        for name in ("", "A", "1", "abcdefghijklm", "a-b", "\u00e4"):
            self.check([f"round {name} east 1"], ["bad"])

    def test_wrong_texts(self):
        for text in ("", " ", "east", "east 1,", "east 1, ", "east  1", " east 1", "east 1 ", "east 0", "east 2..1",
                     "East 1", "east 1 2", "east x", "east 01", "east 1,west 2", ", ".join(["a 1"] * 7)):
            self.check([f"round a {text}", "day 60", "starts a"], ["bad", "ok", "no round a"])

    def test_too_few_words(self):
        for line in ("round", "round ", "round a", "round a "):
            self.check([line], ["bad"])

    def test_a_known_name_gets_the_new_round(self):
        console = self.made("book red b 0")
        self.ask(console, ("round b west 10", "ok"), ("starts b", "4..50"), ("round b West 1", "bad"),
                 ("starts b", "4..50"), ("round b", "bad"), ("book blue b 4", "ok"), ("undo", "ok"), ("undo", "ok"),
                 ("redo", "ok"), ("round c west 1", "ok"), ("starts c", "4..59"))

    def test_rounds_stay_when_the_desk_is_dropped(self):
        console = self.check(START[1:] + ["ring 60", "day 60", "starts b", "ring 30", "starts b"],
                             ["ok"] * 4 + ["0..56", "ok", "0..29"])
        self.ask(console, ("undo", "refused nothing"), ("starts a", "0..29"))


class OrderTest(ConsoleTest):
    def test_lines_that_are_no_commands(self):
        for line in ("", " ", "  ", "help", "Day 60", "LIST", "list ", " list", " day 60", "groups", "redo\n", "run",
                     "number", "tour", "text", "clock 60", "board", "0"):
            self.check([line, "day 60", line], ["bad", "ok", "bad"])

    def test_other_numbers_of_words(self):
        for command, line in RIGHT.items():
            words = line.split(" ")
            console = self.made("book red b 30")
            for other in (words + ["5"], words + [""], [""] + words, words[:1] + [""] + words[1:], words + ["a", "b"]):
                if command != "round":
                    self.ask(console, (" ".join(other), "bad"))
                    self.check([" ".join(other)], ["bad"])
            for count in range(1, len(words)):
                self.ask(console, (" ".join(words[:count]), "bad"))
                self.check([" ".join(words[:count])], ["bad"])
            self.ask(console, ("list", "red 30"), ("undo", "ok"), ("undo", "refused nothing"))

    def test_numbers_that_are_not_written_so(self):
        for wrong in ("x", "", "01", "+1", "-0", "1.0", "-", "1..2", "1" + SIXTY, "\u0661", "1_0", "a"):
            lines = [f"day {wrong}", f"ring {wrong}", f"close north {wrong} 5", f"close north 5 {wrong}",
                     f"book blue b {wrong}", f"move red {wrong}", f"limit {wrong}", f"judge a b {wrong}",
                     f"gap a {wrong}"]
            console = self.made("book red b 30")
            self.ask(console, *[(line, "bad") for line in lines], ("list", "red 30"))
            # Ahead of all other answers.
            self.check(lines, ["bad"] * len(lines))
            self.ask(console, (f"book blue nowhere {wrong}", "bad"), (f"judge nowhere b {wrong}", "bad"),
                     (f"gap nowhere {wrong}", "bad"), (f"move nobody {wrong}", "bad"))

    def test_no_desk(self):
        for command in AT_A_DESK:
            self.check([RIGHT[command]], ["no desk"])
            # Ahead of a round that is not known, and of numbers that are out of their range.
            self.check(START[1:] + [RIGHT[command]], ["ok", "ok", "no desk"])
        self.check(["limit 0", "gap nowhere 1", "close hall 0 0", "book Red nowhere 0", "cancel Red"], ["no desk"] * 5)
        self.check(["day 0", "list", "ring 5", "list"], ["bad", "no desk", "ok", "none"])

    def test_rounds_that_are_not_known(self):
        console = self.made("book red b 30")
        for line, name in (("book blue c 0", "c"), ("starts c", "c"), ("judge c b 0", "c"), ("judge a c 0", "c"),
                           ("judge d c 0", "d"), ("gap c 2", "c"), ("starts C", "C"), ("starts ", ""),
                           ("judge  b 0", ""), ("starts a,", "a,")):
            self.ask(console, (line, f"no round {name}"))
        # Ahead of what is refused, and of numbers that are out of their range.
        self.ask(console, ("book red c 0", "no round c"), ("book Red c 0", "no round c"), ("gap c 1", "no round c"),
                 ("book blue c -1", "no round c"), ("list", "red 30"))

    def test_words_that_are_no_names_are_not_bad_at_once(self):
        console = self.made("limit 1", "book red b 30")
        self.ask(console, ("cancel R-d", "refused unknown R-d"), ("move 7 0", "refused unknown 7"),
                 ("starts R-d", "no round R-d"), ("book R-d b 0", "bad"), ("book R-d c 0", "no round c"))

    def test_what_is_refused_or_bad_changes_nothing(self):
        console = self.made("close west 50 5", "book red b 0", "book blue b 10", "undo")
        for line in ("close west 50 1", "close hall 0 1", "book red b 20", "book gold b 2", "book Gold b 20", "cancel x",
                     "move red 50", "limit 0", "limit 9", "day 0", "ring -1", "round b", "round b West 1", "nothing",
                     "book gold c 20", "undo 1", "redo ", "gap b 1", "starts c", "list 1"):
            self.assertNotEqual(console.answer(line), "ok")
            # What was taken back can still be done again.
            self.ask(console, ("list", "red 0"), ("starts b", "4..46 55..56"), ("redo", "ok"),
                     ("list", "red 0, blue 10"), ("undo", "ok"))

    def test_every_reason(self):
        console = self.made("limit 2", "close west 50 5", "book red b 0", "book blue b 10")
        self.ask(console, ("book red a 0", "refused taken red"), ("move gold 0", "refused unknown gold"),
                 ("book gold b 20", "refused full 2"), ("limit 1", "refused few 2"), ("move red 99", "refused unfit"),
                 ("move red 50", "refused closed 1"), ("move red 10", "refused clash blue"),
                 ("redo", "refused nothing"), *[("undo", "ok")] * 4, ("undo", "refused nothing"))

    def test_the_interface_stands_in_the_class_itself(self):
        self.assertIn("answer", vars(Console))
        self.assertIn("__init__", vars(Console))


if __name__ == "__main__":
    unittest.main()
