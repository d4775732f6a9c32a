"""The word of two groups at a difference, with its certificates."""

from neverrounds.finding import alibi, avoidance, meeting, trap
from neverrounds.meets import may_meet
from neverrounds.stairs import can_avoid, surely_meet


class Verdict:
    """A word and the list of the certificates that show it."""

    def __init__(self, word, certificates):
        self.word = word
        self.certificates = list(certificates)


class Parting:
    """The differences of two rounds, parted by their words."""

    def __init__(self, first, second):
        self.first = first
        self.second = second
        self.may = may_meet(first, second)
        self.surely = surely_meet(first, second)

    @property
    def maybe(self):
        """The set of all differences at which the groups can share a room and can avoid each other."""
        # Groups that surely meet may meet, so what is in exactly one of the sets is in the first.
        return self.may ^ self.surely

    def __call__(self, apart):
        """The word at a difference."""
        if apart in self.surely:
            return "surely"
        return "maybe" if apart in self.may else "never"


def judge(first, second, apart):
    """The Verdict on two groups at a difference."""
    if apart not in may_meet(first, second):
        return Verdict("never", [alibi(first, second, apart)])
    met = meeting(first, second, apart)
    if can_avoid(first, second, apart):
        return Verdict("maybe", [met, avoidance(first, second, apart)])
    return Verdict("surely", [met, trap(first, second, apart)])


def parting(first, second):
    """The Parting of two rounds."""
    return Parting(first, second)
