"""Nets of the digits of whole numbers from 0 on."""

from formatwords.digits import DIGITS, digits_of
from formatwords.nets import either_net, explored
from formatwords.settling import merged, settled
from formatwords.spans import shortened
from formatwords.walks import mask_of


def digits_net(base, count, spans, modulus):
    """A Net with one run for each number of these spans, of its digits, noughts ahead to so many."""
    return settled(either_net([merged(span_net(base, count, span, modulus)) for span in spans]))


def span_net(base, count, span, modulus):
    """A Net with one run for each number of one span, of its digits, noughts ahead to so many."""
    low, high, mask = span
    mask, modulus = shortened(mask, modulus)
    reader = SpanReader(count, digits_of(low, base=base), None if high is None else digits_of(high, base=base))
    worths = [(mask_of(DIGITS[worth]), worth) for worth in range(base)]

    def moves(key):
        state, rest = key
        found = []
        for bit, worth in worths:
            further = reader.further(state, worth)
            if further is not None:
                found.append((bit, (further, (rest * base + worth) % modulus)))
        return found

    def is_end(key):
        return mask >> key[1] & 1 == 1 and reader.is_within(key[0])

    return explored([((0, False, 0, 0), 0)], moves, is_end)


class SpanReader:
    """Reads digits from the first on, and holds them against those of the bounds.

    A state has how many digits there were, whether the first of more than one is a nought, and how they stand to as
    many of the bounds' first digits: -1 below, 0 alike, 1 above.
    """

    def __init__(self, count, low, high):
        self.count = count
        self.low = [DIGITS.find(digit) for digit in low.zfill(count)]
        self.high = None if high is None else [DIGITS.find(digit) for digit in high.zfill(count)]

    def further(self, state, worth):
        """The state one digit further on, or None where no number goes on so."""
        many, is_nought, below, above = state
        if many == self.longest(is_nought):
            return None
        if many == 0:
            is_nought = worth == 0
        below = held_against(below, many, worth, self.low)
        if self.high is None:
            # Behind the last digit of the lower bound all is the same again and again.
            return min(many + 1, len(self.low) + 1), is_nought, below, 0
        return many + 1, is_nought, below, held_against(above, many, worth, self.high)

    def longest(self, is_nought):
        """How many digits there can be, None where that is without end."""
        if is_nought:
            return self.count
        return None if self.high is None else len(self.high)

    def is_within(self, state):
        """Whether a number that ends here is between the bounds."""
        many, is_nought, below, above = state
        if many < len(self.low) or (many == len(self.low) and below < 0):
            return False
        return self.high is None or many < len(self.high) or above <= 0


def held_against(stand, many, worth, bound):
    """How digits stand to as many of a bound's first ones, one digit further on."""
    if many >= len(bound):
        return 1
    if stand != 0 or worth == bound[many]:
        return stand
    return 1 if worth > bound[many] else -1
