"""How sets of moments, rounds and desks are written and read."""

from neverrounds.clocks import clock_of
from neverrounds.desk import Desk
from neverrounds.errors import BadLine, BadText, RoundsError
from neverrounds.figures import read_number, read_span, write_number, write_span
from neverrounds.moments import Moments
from neverrounds.rounds import Round

# How many parts a line of a desk has, and with which words the next line may begin.
PARTS = {"day": 2, "ring": 2, "limit": 2, "close": 4, "group": 4}
NEXT_WORDS = {
    "day": ("limit",),
    "ring": ("limit",),
    "limit": ("close", "group"),
    "close": ("close", "group"),
    "group": ("group",),
}


def write_moments(moments):
    """The spans of a set of moments, or none."""
    if len(moments) == 0:
        return "none"
    return " ".join([write_span(low, high) for low, high in moments.spans])


def read_moments(text):
    """The set of moments that a text writes."""
    if text == "none":
        return Moments.none()
    return Moments([read_pair(word, place) for place, word in enumerate(text.split(" "), start=1)])


def read_pair(word, place):
    """The span that the word at this place of a text writes."""
    low, high = read_span(word, place)
    if low > high:
        raise BadText(place)
    return low, high


def write_round(tour):
    """The stays of a round."""
    return ", ".join([f"{room} {write_span(least, most)}" for room, least, most in tour.stays])


def write_desk(desk):
    """The list of the lines of a desk."""
    lines = [desk.clock.words(), f"limit {write_number(desk.limit)}"]
    for room, start, minutes in desk.closings():
        lines.append(f"close {room} {write_number(start)} {write_number(minutes)}")
    for name, tour, start in desk.groups():
        lines.append(f"group {name} {write_number(start)} {write_round(tour)}")
    return lines


def read_desk(lines):
    """A new desk from the list of its lines."""
    desk = None
    first_words = ("day", "ring")
    for number in range(1, max(2, len(lines)) + 1):
        parts = parts_of(lines, number, first_words)
        first_words = NEXT_WORDS[parts[0]]
        try:
            desk = after_line(desk, parts)
        except RoundsError as error:
            raise BadLine(number) from error
    desk.settle()
    return desk


def parts_of(lines, number, first_words):
    """The parts of the line of this number, which must begin with one of some words."""
    if number > len(lines):
        raise BadLine(number)
    parts = lines[number - 1].split(" ")
    if parts[0] not in first_words:
        raise BadLine(number)
    if parts[0] == "group":
        # The round is one part, although there are spaces in it.
        parts = lines[number - 1].split(" ", 3)
    if len(parts) != PARTS[parts[0]]:
        raise BadLine(number)
    return parts


def after_line(desk, parts):
    """The desk after one more line; the first line makes it."""
    match parts[0]:
        case "day" | "ring":
            return Desk(clock_of(parts[0], read_number(parts[1])))
        case "limit":
            desk.change_limit(read_number(parts[1]))
        case "close":
            desk.close(parts[1], read_number(parts[2]), read_number(parts[3]))
        case "group":
            start = read_number(parts[2])
            desk.book(parts[1], Round.read(parts[3]), start)
    return desk
