"""Ranges of fractions, and those that are rounded to a whole number."""

from formatwords.digits import signed_digits
from formatwords.errors import NoRange
from formatwords.fractions import HALF, fraction, is_below, one_way


class Range:
    """All fractions from low to high, each end in it or not; None is without end."""

    def __init__(self, low, high, *, low_in=True, high_in=True):
        self.low = low
        self.high = high
        self.low_in = low_in and low is not None
        self.high_in = high_in and high is not None
        if is_void(low, high, low_in, high_in):
            raise NoRange()

    def has(self, number):
        """Whether a fraction is in it."""
        above = self.low is None or is_below(self.low, number) or (self.low_in and self.low == number)
        below = self.high is None or is_below(number, self.high) or (self.high_in and self.high == number)
        return above and below

    def meet(self, other):
        """The Range of what both have, or None."""
        late = self if begins_ahead(other, self) else other
        soon = self if ends_ahead(self, other) else other
        if is_void(late.low, soon.high, late.low_in, soon.high_in):
            return None
        return Range(late.low, soon.high, low_in=late.low_in, high_in=soon.high_in)

    def __eq__(self, other):
        return (
            isinstance(other, Range) and self.low == other.low and self.high == other.high
            and self.low_in == other.low_in and self.high_in == other.high_in
        )

    def __str__(self):
        return "".join([
            "[" if self.low_in else "(", end_text(self.low), ", ",
            end_text(self.high), "]" if self.high_in else ")",
        ])


def is_void(low, high, low_in, high_in):
    """Whether no fraction lies between two such ends."""
    if low is None or high is None:
        return False
    if low == high:
        return not (low_in and high_in)
    return is_below(high, low)


def end_text(end):
    """An end as the text of a Range has it."""
    if end is None:
        return ".."
    top, bottom = end
    return signed_digits(top) if bottom == 1 else f"{signed_digits(top)}/{signed_digits(bottom)}"


def begins_ahead(one, other):
    """Whether the one has something below all that the other has."""
    if other.low is None:
        return False
    if one.low is None:
        return True
    if one.low == other.low:
        return one.low_in and not other.low_in
    return is_below(one.low, other.low)


def ends_ahead(one, other):
    """Whether the other has something above all that the one has."""
    if one.high is None:
        return False
    if other.high is None:
        return True
    if one.high == other.high:
        return other.high_in and not one.high_in
    return is_below(one.high, other.high)


def joined(ranges):
    """As few Ranges as can be that have the same fractions, rising."""
    rows = []
    for one in risen(ranges):
        if len(rows) > 0 and is_linked(rows[-1], one):
            rows[-1] = spanned(rows[-1], one)
        else:
            rows.append(one)
    return rows


def risen(ranges):
    """The Ranges by where they begin."""
    # Put in one by one: Python's own order of tuples is not that of fractions.
    rows = []
    for one in ranges:
        at = len(rows)
        while at > 0 and begins_ahead(one, rows[at - 1]):
            at -= 1
        rows.insert(at, one)
    return rows


def is_linked(one, other):
    """Whether nothing lies between the one and the other, which does not begin ahead of it."""
    if one.high is None or other.low is None:
        return True
    if one.high == other.low:
        return one.high_in or other.low_in
    return is_below(other.low, one.high)


def spanned(one, other):
    """The Range of what two have that are linked, the one of which begins first."""
    late = one if ends_ahead(other, one) else other
    return Range(one.low, late.high, low_in=one.low_in, high_in=late.high_in)


def rounds_to(whole, *, mode=HALF):
    """The Range of all fractions that a mode rounds to this whole number."""
    if mode == HALF:
        return half_around(whole, whole > 0, whole < 0)
    if mode == "even":
        return half_around(whole, whole % 2 == 0, whole % 2 == 0)
    if whole == 0 and mode == "down":
        return Range((-1, 1), (1, 1), low_in=False, high_in=False)
    if whole == 0 and mode == "up":
        return Range((0, 1), (0, 1))
    if one_way(mode, whole) == "floor":
        return Range((whole, 1), (whole + 1, 1), high_in=False)
    return Range((whole - 1, 1), (whole, 1), low_in=False)


def half_around(whole, low_in, high_in):
    """The Range from a half below a whole number to a half above it."""
    return Range(fraction(2 * whole - 1, 2), fraction(2 * whole + 1, 2), low_in=low_in, high_in=high_in)
