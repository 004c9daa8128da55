"""Fractions, tuples (top, bottom) in lowest terms, and how they are rounded."""

from formatwords.errors import Nought
from formatwords.plain import power

HALF = "half"
MODES = ("down", "up", "floor", "roof", "half", "even")


def fraction(top, bottom=1):
    """The fraction of a top and a bottom, in lowest terms; Nought of a bottom of 0."""
    if bottom == 0:
        raise Nought(top)
    measure = common_measure(top, bottom)
    if bottom < 0:
        measure = -measure
    return top // measure, bottom // measure


def common_measure(one, other):
    """The greatest whole number that divides both; they are not both 0."""
    one, other = abs(one), abs(other)
    while other > 0:
        one, other = other, one % other
    return one


def is_below(one, other):
    """Whether the one fraction is less than the other."""
    return one[0] * other[1] < other[0] * one[1]


def scaled(number, base, exponent):
    """The fraction times base ** exponent; the exponent may be below 0."""
    top, bottom = number
    if exponent < 0:
        return fraction(top, bottom * power(base, -exponent))
    return fraction(top * power(base, exponent), bottom)


def rounded(number, *, mode=HALF):
    """The whole number that a fraction becomes by a mode."""
    top, bottom = number
    low = top // bottom
    left = top - low * bottom
    if left == 0 or not goes_up(low, left, bottom, mode):
        return low
    return low + 1


def goes_up(low, left, bottom, mode):
    """Whether low and left / bottom, which lies between low and low + 1, is rounded to the upper one."""
    if mode not in (HALF, "even"):
        return one_way(mode, low) == "roof"
    if 2 * left != bottom:
        return 2 * left > bottom
    if mode == HALF:
        return low >= 0
    return low % 2 == 1


def one_way(mode, whole):
    """What "down" and "up" are on the side of nought on which this whole number lies; other modes as they are."""
    if mode == "down":
        return "roof" if whole < 0 else "floor"
    if mode == "up":
        return "floor" if whole < 0 else "roof"
    return mode
