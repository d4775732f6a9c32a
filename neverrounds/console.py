"""The console: rounds and a desk, worked by lines of text."""

from neverrounds.clocks import clock_of
from neverrounds.desk import Desk
from neverrounds.errors import Refused, RoundsError
from neverrounds.figures import is_name, is_number, read_number, write_number
from neverrounds.gaps import least_gap
from neverrounds.judge import parting
from neverrounds.rounds import Round
from neverrounds.texts import write_moments

# What the words behind each command are; the command round takes the rest of its line and is read by itself.
FORMS = {
    "day": ("number",),
    "ring": ("number",),
    "close": ("text", "number", "number"),
    "book": ("text", "tour", "number"),
    "cancel": ("text",),
    "move": ("text", "number"),
    "limit": ("number",),
    "undo": (),
    "redo": (),
    "starts": ("tour",),
    "judge": ("tour", "tour", "number"),
    "gap": ("tour", "number"),
    "list": (),
}


def has_form(command, words):
    """Tell whether there is such a command, with so many words, and with numbers where they belong."""
    if command not in FORMS or len(words) != len(FORMS[command]):
        return False
    return all([is_number(word) for word, kind in zip(words, FORMS[command]) if kind == "number"])


def write_gap(gap):
    """A gap, or none."""
    return "none" if gap is None else write_number(gap)


def write_groups(desk):
    """The names and the starts of the groups, or none."""
    if len(desk) == 0:
        return "none"
    return ", ".join([f"{name} {write_number(start)}" for name, _, start in desk.groups()])


class Console:
    """Rounds by name, and at most one desk."""

    def __init__(self):
        self._rounds = {}
        self._desk = None

    def answer(self, line):
        """The answer to one line."""
        command, *words = line.split(" ")
        if command == "round":
            return self.keep_round(line)
        if not has_form(command, words):
            return "bad"
        if self._desk is None and command not in ("day", "ring"):
            return "no desk"
        for word, kind in zip(words, FORMS[command]):
            if kind == "tour" and word not in self._rounds:
                return f"no round {word}"
        values = [self.value_of(word, kind) for word, kind in zip(words, FORMS[command])]
        try:
            return self.carry_out(command, values)
        except Refused as refusal:
            return f"refused {refusal.reason}"
        except RoundsError:
            return "bad"

    def keep_round(self, line):
        """Keep the round of a line, whose text is all of the rest of the line."""
        parts = line.split(" ", 2)
        if len(parts) != 3 or not is_name(parts[1]):
            return "bad"
        try:
            self._rounds[parts[1]] = Round.read(parts[2])
        except RoundsError:
            return "bad"
        return "ok"

    def value_of(self, word, kind):
        """What a word stands for."""
        if kind == "number":
            return read_number(word)
        return self._rounds[word] if kind == "tour" else word

    def carry_out(self, command, values):
        """The answer to a command that has its form."""
        desk = self._desk
        match command:
            case "day" | "ring":
                self._desk = Desk(clock_of(command, values[0]))
            case "close":
                desk.close(values[0], values[1], values[2])
            case "book":
                desk.book(values[0], values[1], values[2])
            case "cancel":
                desk.cancel(values[0])
            case "move":
                desk.move(values[0], values[1])
            case "limit":
                desk.change_limit(values[0])
            case "undo":
                desk.undo()
            case "redo":
                desk.redo()
            case "starts":
                return write_moments(desk.safe_starts(values[0]))
            case "judge":
                return desk.clock.verdict(parting(values[0], values[1]), values[2])
            case "gap":
                return write_gap(least_gap(desk.clock, values[0], values[1]).gap)
            case "list":
                return write_groups(desk)
        return "ok"


def answers(lines):
    """Yield the answers of a new console to a list of lines, one by one."""
    console = Console()
    for line in lines:
        yield console.answer(line)
