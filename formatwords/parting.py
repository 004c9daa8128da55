"""Words and modes held against each other: where they part."""

from formatwords.digits import TEN
from formatwords.fractions import fraction, rounded
from formatwords.plain import power
from formatwords.words import WIDEST
from formatwords.written import write


def parting(one, other):
    """The number nearest to nought that two whole Words write unlike, with both rows; None where there is none."""
    for size in telling_sizes(one.base, other.base):
        for number in (size, -size):
            first, second = write(one, number), write(other, number)
            if first != second:
                return number, first, second
    return None


def telling_sizes(base, other):
    """Numbers, rising, such that two Words of these bases part at one of them, or at none at all."""
    if base != other:
        # The lesser base is one digit of the other, and two of its own, which no fills can hide.
        return list(range(min(base, other) + 1))
    # Two shapes of as many digits part at the least number that has these, or where one digit of it is one more.
    # From WIDEST digits on there are no fills, and who writes alike there does so for ever.
    sizes = [0]
    for place in range(WIDEST):
        least = power(base, place)
        sizes.append(least)
        sizes.extend([least + power(base, lower) for lower in range(place + 1)])
    return sizes


def modes_parting(one, other, *, base=TEN, places=0):
    """The fraction of the least bottom whose product with base ** places two modes round unlike, or None."""
    if one == other:
        return None
    unit = power(base, places)
    bottom = least_bottom(one, other, unit)
    while True:
        top = parting_top(one, other, unit, bottom)
        if top is not None:
            return top, bottom
        bottom += 1


def least_bottom(one, other, unit):
    """A bottom such that no fraction of a lesser one, times unit, is rounded unlike."""
    if one not in ("half", "even") or other not in ("half", "even"):
        return 1
    # These two part at halves alone, and a lesser bottom makes none of this unit.
    bottom = 2
    while unit % bottom == 0:
        bottom *= 2
    return bottom


def parting_top(one, other, unit, bottom):
    """The top nearest to nought of a fraction of this bottom that is rounded unlike, or None."""
    # Twice the bottom further on all is the same again: what is left over, and what is even. What is not in lowest
    # terms has a lesser bottom, of which none was found.
    for size in range(1, 2 * bottom + 1):
        for top in (size, -size):
            product = fraction(top * unit, bottom)
            if rounded(product, mode=one) != rounded(product, mode=other):
                return top
    return None
