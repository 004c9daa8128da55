"""Whole numbers by digits of a base."""

from formatwords.errors import NoDigits

TEN = 10
DIGITS = "0123456789abcdefghijklmnopqrstuvwxyz"


def digits_of(number, *, base=TEN):
    """The digits of a whole number from 0 on, without a nought ahead of others."""
    digits = [DIGITS[number % base]]
    number //= base
    while number > 0:
        digits.append(DIGITS[number % base])
        number //= base
    return "".join(digits[::-1])


def signed_digits(number):
    """A whole number by figures, a minus ahead of one below 0."""
    # Not by str, which refuses numbers of some thousand figures, such as great exponents lead to.
    return ("-" if number < 0 else "") + digits_of(abs(number))


def number_of(text, *, base=TEN):
    """The whole number that has these digits, noughts ahead let by; NoDigits of all else."""
    if not isinstance(text, str) or text == "":
        raise NoDigits(0)
    known = DIGITS[:base]
    number = 0
    for at, sign in enumerate(text):
        worth = known.find(sign)
        if worth < 0:
            raise NoDigits(at)
        number = number * base + worth
    return number


def grouped(digits, sign, size):
    """The digits with a sign between groups of so many, counted from the right."""
    first = len(digits) % size
    groups = [digits[:first]] if first > 0 else []
    for at in range(first, len(digits), size):
        groups.append(digits[at:at + size])
    return sign.join(groups)
