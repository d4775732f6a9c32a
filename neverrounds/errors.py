"""The errors of the program; each one keeps its argument in an attribute of the same name."""


class RoundsError(ValueError):
    """The base class of all errors that the program raises."""


class BadSpan(RoundsError):
    """The pair at this place has its low above its high."""

    def __init__(self, place):
        RoundsError.__init__(self, f"pair {place} has its low above its high")
        self.place = place


class BadModulus(RoundsError):
    """A set of moments cannot be divided by this number."""

    def __init__(self, number):
        RoundsError.__init__(self, f"{number} is less than 1")
        self.number = number


class BadName(RoundsError):
    """This text is not a name."""

    def __init__(self, name):
        RoundsError.__init__(self, f"{name!r} cannot be the name here")
        self.name = name


class BadStay(RoundsError):
    """The stay of this step has wrong numbers of minutes."""

    def __init__(self, step):
        RoundsError.__init__(self, f"the minutes of stay {step} are wrong")
        self.step = step


class BadCount(RoundsError):
    """There are too few or too many of something."""

    def __init__(self, count):
        RoundsError.__init__(self, f"the count {count} is not allowed here")
        self.count = count


class NoStep(RoundsError):
    """The round has no such step."""

    def __init__(self, step):
        RoundsError.__init__(self, f"there is no step {step}")
        self.step = step


class BadLag(RoundsError):
    """A round cannot lag by this number of minutes."""

    def __init__(self, number):
        RoundsError.__init__(self, f"the lag {number} is negative")
        self.number = number


class BadLengths(RoundsError):
    """The length of this step does not fit; the step is 0 if the number of lengths is wrong."""

    def __init__(self, step):
        RoundsError.__init__(self, f"the lengths do not fit the round at step {step}")
        self.step = step


class BadLength(RoundsError):
    """A clock cannot have this length."""

    def __init__(self, number):
        RoundsError.__init__(self, f"a clock cannot have the length {number}")
        self.number = number


class BadLimit(RoundsError):
    """A desk cannot have this limit."""

    def __init__(self, number):
        RoundsError.__init__(self, f"a desk cannot have the limit {number}")
        self.number = number


class BadNumber(RoundsError):
    """This text is not written as a number."""

    def __init__(self, text):
        RoundsError.__init__(self, f"{text!r} is not a number")
        self.text = text


class BadText(RoundsError):
    """The part of a text at this place is wrong."""

    def __init__(self, place):
        RoundsError.__init__(self, f"part {place} of the text is wrong")
        self.place = place


class BadLine(RoundsError):
    """The line with this number is wrong or missing."""

    def __init__(self, number):
        RoundsError.__init__(self, f"line {number} is wrong or missing")
        self.number = number


class Refused(RoundsError):
    """A deed or a question that is refused, with the reason as a text."""

    def __init__(self, reason):
        RoundsError.__init__(self, reason)
        self.reason = reason


class NameTaken(Refused):
    """The name belongs to another group or wish."""

    def __init__(self, name):
        Refused.__init__(self, f"taken {name}")
        self.name = name


class UnknownGroup(Refused):
    """No booked group has this name."""

    def __init__(self, name):
        Refused.__init__(self, f"unknown {name}")
        self.name = name


class Full(Refused):
    """There are as many groups or closings already as this number allows."""

    def __init__(self, number):
        Refused.__init__(self, f"full {number}")
        self.number = number


class TooFew(Refused):
    """A limit is too low for the count of groups that are booked."""

    def __init__(self, count):
        Refused.__init__(self, f"few {count}")
        self.count = count


class NotFitting(Refused):
    """A round does not fit the clock."""

    def __init__(self):
        Refused.__init__(self, "unfit")


class Closed(Refused):
    """The closing at this place is in the way."""

    def __init__(self, place):
        Refused.__init__(self, f"closed {place}")
        self.place = place


class Clash(Refused):
    """The group of this name is in the way."""

    def __init__(self, name):
        Refused.__init__(self, f"clash {name}")
        self.name = name


class NothingToUndo(Refused):
    """No deed is left to be taken back."""

    def __init__(self):
        Refused.__init__(self, "nothing")


class NothingToRedo(Refused):
    """No deed is left to be done again."""

    def __init__(self):
        Refused.__init__(self, "nothing")
