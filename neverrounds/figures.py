"""How names, numbers and spans are written."""

from neverrounds.errors import BadNumber, BadText

# Written out, because the methods of strings also take letters and digits of other scripts.
LETTERS = "abcdefghijklmnopqrstuvwxyz"
DIGITS = "0123456789"
MOST_SIGNS = 12
MOST_DIGITS = 60


def is_name(text):
    """Tell whether the text is a name of a room, a round or a group."""
    if not 1 <= len(text) <= MOST_SIGNS:
        return False
    if text[0] not in LETTERS:
        return False
    return all([sign in LETTERS or sign in DIGITS for sign in text])


def write_number(number):
    """The number in digits, with a minus before it if it is negative."""
    return str(number)


def read_number(text):
    """The integer that the text writes."""
    if not is_number(text):
        raise BadNumber(text)
    return int(text)


def is_number(text):
    """Tell whether the text is written as write_number writes, with at most sixty digits."""
    digits = text.removeprefix("-")
    if not 1 <= len(digits) <= MOST_DIGITS:
        return False
    if digits[0] == "0":
        return text == "0"
    return all([sign in DIGITS for sign in digits])


def write_span(low, high):
    """A span as low..high, or as the one number that it has."""
    if low == high:
        return write_number(low)
    return f"{write_number(low)}..{write_number(high)}"


def read_span(text, place):
    """The two numbers of a span, which is the part of a text at this place; low may be above high."""
    low, dots, high = text.partition("..")
    if dots == "":
        high = low
    if not is_number(low) or not is_number(high):
        raise BadText(place)
    return read_number(low), read_number(high)
