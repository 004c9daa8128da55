"""From a row back to the numbers that are so written."""

from formatwords.digits import number_of
from formatwords.errors import NoDigits
from formatwords.fractions import scaled
from formatwords.plain import power
from formatwords.ranges import Range, joined, rounds_to
from formatwords.written import fill_counts, row_of, surroundings


def backs(word, text):
    """The Ranges of all numbers that a Word writes as just this text, rising."""
    ranges = []
    for numeral in numerals_of(word, text):
        ranges.extend(numbers_of(word, numeral))
    return joined(ranges)


def numerals_of(word, text):
    """All numerals whose row this text is."""
    found = []
    for below in (True, False):
        for lack in possible_lacks(word, text):
            numeral = numeral_within(word, text, below, lack)
            # What is taken out of a text was not held against sign, groups and fills: the row is.
            if numeral is not None and numeral not in found and row_of(word, numeral) == text:
                found.append(numeral)
    return found


def possible_lacks(word, text):
    """How many fills a text may have by its length."""
    if len(text) == word.width:
        return list(range(word.width))
    return [0] if len(text) > word.width else []


def numeral_within(word, text, below, lack):
    """The numeral that stands in a text where it is below 0 or not and has so many fills, or None."""
    front, behind = surroundings(word, below)
    before, within, after = fill_counts(word.side, lack)
    body = text[before + len(front) + within:len(text) - after - len(behind)]
    try:
        if word.kind == "power":
            return power_numeral_within(word, body, below)
        return signed(digits_within(word, body), below)
    except NoDigits:
        return None


def power_numeral_within(word, body, below):
    """The tuple (n, e) of what is left of a row without sign, mark and fills; NoDigits where it is none."""
    digits, parting, exponent = body.partition("@")
    e = number_of(exponent.removeprefix("-"))
    return signed(digits_within(word, digits), below), signed(e, exponent.startswith("-"))


def digits_within(word, body):
    """The whole number of what is left of a row without point and groups; NoDigits of what has other signs."""
    digits = body.replace(".", "")
    if word.group is not None:
        digits = digits.replace(word.group[0], "")
    return number_of(digits, base=word.base)


def signed(number, below):
    """The number, or the one below 0."""
    return -number if below else number


def numbers_of(word, numeral):
    """The Ranges of all numbers that have this numeral."""
    if word.kind == "whole":
        return [Range((numeral, 1), (numeral, 1))]
    if word.kind == "fixed":
        return [rounding_range(word, numeral, 0)]
    return power_numbers(word, numeral)


def rounding_range(word, whole, exponent):
    """The Range of all numbers that, over base ** exponent, are rounded to this whole number of last places."""
    found = rounds_to(whole, mode=word.mode)
    low = scaled(found.low, word.base, exponent - word.places)
    high = scaled(found.high, word.base, exponent - word.places)
    return Range(low, high, low_in=found.low_in, high_in=found.high_in)


def power_numbers(word, numeral):
    """The Ranges of all numbers that have this numeral by a power Word; none where it is the numeral of none."""
    whole, exponent = numeral
    if whole == 0:
        return [Range((0, 1), (0, 1))] if exponent == 0 else []
    if exponent % word.step != 0:
        return []
    most = power(word.base, word.places + word.step)
    ranges = []
    if abs(whole) < most:
        ranges.append(rounding_range(word, whole, exponent).meet(exponent_range(word, exponent, whole < 0)))
    if abs(whole) == power(word.base, word.places):
        # Rounded up beyond the last numeral of the exponent ahead, a number has this one.
        ahead = exponent - word.step
        rounding = rounding_range(word, signed(most, whole < 0), ahead)
        ranges.append(rounding.meet(exponent_range(word, ahead, whole < 0)))
    return [one for one in ranges if one is not None]


def exponent_range(word, exponent, below):
    """The Range of all numbers that have this exponent before they are rounded."""
    near = scaled((1, 1), word.base, exponent)
    far = scaled((1, 1), word.base, exponent + word.step)
    if below:
        return Range((-far[0], far[1]), (-near[0], near[1]), low_in=False)
    return Range(near, far, high_in=False)
