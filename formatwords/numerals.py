"""Numerals: what a Word writes of a number, rounded, before it is text."""

from formatwords.fractions import rounded, scaled
from formatwords.plain import power


def numeral_of(word, number):
    """A whole number, or, by a power Word, a tuple (n, e)."""
    if word.kind == "whole":
        return number
    if word.kind == "fixed":
        return rounded(scaled(number, word.base, word.places), mode=word.mode)
    return power_numeral(word, number)


def power_numeral(word, number):
    """The tuple (n, e) of a fraction by a power Word."""
    if number[0] == 0:
        return 0, 0
    exponent = exponent_of(number, word.base, word.step)
    whole = rounded(scaled(number, word.base, word.places - exponent), mode=word.mode)
    if abs(whole) < power(word.base, word.step + word.places):
        return whole, exponent
    unit = power(word.base, word.places)
    return (unit if whole > 0 else -unit), exponent + word.step


def exponent_of(number, base, step):
    """The greatest whole number that step divides such that base to it is no more than the number without its sign."""
    top, bottom = abs(number[0]), number[1]
    factor = power(base, step)
    exponent = 0
    while top >= bottom * factor:
        bottom *= factor
        exponent += step
    while top < bottom:
        top *= factor
        exponent -= step
    return exponent
