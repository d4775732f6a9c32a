"""Finite sets of integers, kept as spans."""

from neverrounds.errors import BadModulus, BadSpan


def joined(pairs):
    """The spans of the union of some pairs, in ascending order and never touching."""
    spans = []
    for low, high in sorted(pairs):
        if spans and low <= spans[-1][1] + 1:
            spans[-1] = (spans[-1][0], max(spans[-1][1], high))
        else:
            spans.append((low, high))
    return spans


def edges(spans):
    """The integers at which the set begins or has just ended, in ascending order."""
    return [edge for low, high in spans for edge in (low, high + 1)]


def in_one(one, other):
    """The spans of the integers that are in exactly one of two sets."""
    # An edge of both sets changes nothing about being in exactly one, so it drops out.
    left = sorted(set(edges(one)) ^ set(edges(other)))
    return [(left[k], left[k + 1] - 1) for k in range(0, len(left), 2)]


def in_both(one, other):
    """The spans of the integers that are in both of two sets."""
    return in_one(joined(one + other), in_one(one, other))


def shifted(spans, by):
    """The spans with every integer greater by the same number."""
    return [(low + by, high + by) for low, high in spans]


def absolute(low, high):
    """The span of the absolute values of the integers of a span."""
    if low >= 0:
        return (low, high)
    if high <= 0:
        return (-high, -low)
    return (0, max(-low, high))


def remainders(low, high, modulus):
    """The pairs of the remainders of the integers of a span."""
    if high - low + 1 >= modulus:
        return [(0, modulus - 1)]
    first = low % modulus
    last = high % modulus
    if first <= last:
        return [(first, last)]
    return [(0, last), (first, modulus - 1)]


class Moments:
    """A finite set of integers."""

    def __init__(self, pairs):
        for place, (low, high) in enumerate(pairs, start=1):
            if low > high:
                raise BadSpan(place)
        self._spans = joined(pairs)

    @staticmethod
    def span(low, high):
        """The set of all integers from low to high, empty if low > high."""
        if low > high:
            return Moments([])
        return Moments([(low, high)])

    @staticmethod
    def none():
        """The empty set."""
        return Moments([])

    @property
    def spans(self):
        """The list of the spans, in ascending order."""
        return list(self._spans)

    @property
    def lowest(self):
        """The least integer, or None."""
        return self._spans[0][0] if self._spans else None

    @property
    def highest(self):
        """The greatest integer, or None."""
        return self._spans[-1][1] if self._spans else None

    @property
    def size(self):
        """The number of integers."""
        return sum([high - low + 1 for low, high in self._spans])

    def outside(self, low, high):
        """The set of the integers from low to high that are not in this set."""
        return Moments.span(low, high) ^ self.clipped(low, high)

    def clipped(self, low, high):
        """The set of the integers from low to high that are in this set."""
        return self & Moments.span(low, high)

    def within(self, other):
        """Tell whether every integer of this set is in the other one."""
        return (self & other) == self

    def free_from(self, number):
        """The least integer that is not less than the number and not in this set."""
        for low, high in self._spans:
            if low <= number <= high:
                return high + 1
        return number

    def __or__(self, other):
        return Moments(self._spans + other._spans)

    def __and__(self, other):
        return Moments(in_both(self._spans, other._spans))

    def __xor__(self, other):
        return Moments(in_one(self._spans, other._spans))

    def __add__(self, other):
        return Moments([(low + least, high + most) for low, high in self._spans for least, most in other._spans])

    def __sub__(self, other):
        return Moments([(low - most, high - least) for low, high in self._spans for least, most in other._spans])

    def __neg__(self):
        return Moments([(-high, -low) for low, high in self._spans])

    def __abs__(self):
        return Moments([absolute(low, high) for low, high in self._spans])

    def __rshift__(self, other):
        return Moments(shifted(self._spans, other))

    def __lshift__(self, other):
        return Moments(shifted(self._spans, -other))

    def __mod__(self, other):
        if other < 1:
            raise BadModulus(other)
        return Moments([pair for low, high in self._spans for pair in remainders(low, high, other)])

    def __floordiv__(self, other):
        if other < 1:
            raise BadModulus(other)
        # -(-low // other) rounds up; a span without a multiple gives a pair whose low is above its high.
        pairs = [(-(-low // other), high // other) for low, high in self._spans]
        return Moments([(low, high) for low, high in pairs if low <= high])

    def __contains__(self, x):
        return any([low <= x <= high for low, high in self._spans])

    def __eq__(self, other):
        return isinstance(other, Moments) and self._spans == other._spans

    def __len__(self):
        return len(self._spans)

    def __iter__(self):
        return iter(self._spans)
