"""Rows of numbers."""

from formatwords.digits import digits_of, grouped, signed_digits
from formatwords.numerals import numeral_of

# What stands ahead and behind by the sign: of a numeral below 0, then of all others.
SIGN_PAIRS = {
    "minus": (("-", ""), ("", "")),
    "plus": (("-", ""), ("+", "")),
    "blank": (("-", ""), (" ", "")),
    "brackets": (("(", ")"), ("", "")),
    "behind": (("", "-"), ("", "")),
}


def write(word, number):
    """The row of a number."""
    return row_of(word, numeral_of(word, number))


def row_of(word, numeral):
    """The row of all numbers that have this numeral."""
    whole = numeral[0] if word.kind == "power" else numeral
    body = pointed(word, digits_of(abs(whole), base=word.base))
    if word.kind == "power":
        body = f"{body}@{signed_digits(numeral[1])}"
    ahead, behind = around(word, whole < 0, len(body))
    return ahead + body + behind


def around(word, below, count):
    """All that stands ahead of so many signs and behind them, of a numeral that is below 0 or not."""
    front, behind = surroundings(word, below)
    lack = max(0, word.width - len(front) - count - len(behind))
    before, within, after = fill_counts(word.side, lack)
    return word.fill * before + front + word.fill * within, behind + word.fill * after


def surroundings(word, below):
    """What stands ahead of the digits and behind them, fills apart, of a numeral that is below 0 or not."""
    ahead, behind = SIGN_PAIRS[word.sign][0 if below else 1]
    mark = str(word.base) + "#" if word.mark else ""
    return ahead + mark, behind


def pointed(word, digits):
    """The digits with noughts ahead, groups and point, as a Word has them."""
    digits = digits.zfill(word.places + 1)
    point = len(digits) - word.places
    whole = digits[:point]
    if word.group is not None:
        sign, size = word.group
        whole = grouped(whole, sign, size)
    return f"{whole}.{digits[point:]}" if word.places > 0 else whole


def fill_counts(side, lack):
    """How many of the fills stand ahead of all, ahead of the digits, and behind all."""
    if side == "left":
        return 0, 0, lack
    if side == "right":
        return lack, 0, 0
    if side == "inner":
        return 0, lack, 0
    return lack // 2, 0, lack - lack // 2
