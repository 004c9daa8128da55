"""Shapes: how the rows of all numerals of one sign and as many digits are."""

from formatwords.written import around, pointed


def shape(word, sign, count):
    """For each sign of such a row this sign, or, where a digit of the numeral stands, its number."""
    body = pointed(word, "0" * count)
    ahead, behind = around(word, sign < 0, len(body))
    signs = list(body) if sign == 0 else numbered(body, count)
    return (*ahead, *signs, *behind)


def numbered(body, count):
    """The signs of a body of noughts, but for each of its last so many digits its number."""
    number = count - body.count("0")
    signs = []
    for sign in body:
        if sign != "0":
            signs.append(sign)
            continue
        # Below 0 are those that stand ahead of the numeral's own digits, to make up its places.
        signs.append(sign if number < 0 else number)
        number += 1
    return signs
