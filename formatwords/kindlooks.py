"""What kinds are made of, looked at: numbers, names, texts, and how rows are filled."""

from formatwords.errors import NoKind
from formatwords.fractions import common_measure, is_below
from formatwords.plain import is_one_of, is_text, is_whole, is_within, power
from formatwords.words import WIDEST, Word, is_fill
from formatwords.written import fill_counts

MOST_BY = 12
LEAST_SIZE = 2
MOST_SIZE = 1000
LONGEST_NAME = 8
LETTERS = "abcdefghijklmnopqrstuvwxyz"
# What rows of a book begin with in its text can't be names in it.
ROW_WORDS = ("keep", "apart")
ROW_SIDES = ("left", "right", "middle")


def require(right, field):
    """NoKind of this field where it isn't right."""
    if not right:
        raise NoKind(field)


def is_sequence(thing):
    """Whether this is a list or a tuple."""
    return isinstance(thing, (list, tuple))


def is_fraction(thing):
    """Whether this is a fraction, in lowest terms."""
    return (
        isinstance(thing, tuple) and len(thing) == 2 and is_whole(thing[0]) and is_whole(thing[1])
        and thing[1] >= 1 and common_measure(thing[0], thing[1]) == 1
    )


def is_number_word(thing):
    """Whether this is a Word by which a Number can be written."""
    return isinstance(thing, Word) and thing.kind in ("whole", "fixed")


def is_number_of(word, thing):
    """Whether this is a number that such a Word writes without rounding."""
    if word.kind == "whole":
        return is_whole(thing)
    return is_fraction(thing) and power(word.base, word.places) % thing[1] == 0


def is_bound(word, thing):
    """Whether this is such a number, or None: without end."""
    return thing is None or is_number_of(word, thing)


def in_order(one, other):
    """Whether the one number is no more than the other; None is without end."""
    if one is None or other is None:
        return True
    if is_whole(one):
        return one <= other
    return not is_below(other, one)


def is_rest(thing):
    """Whether this is a tuple (left, by)."""
    return (
        isinstance(thing, tuple) and len(thing) == 2
        and is_within(thing[1], 1, MOST_BY) and is_within(thing[0], 0, thing[1] - 1)
    )


def is_count(thing):
    """Whether this is a whole number from 0 on."""
    return is_whole(thing) and thing >= 0


def is_most(thing, least):
    """Whether this is a whole number from least on, or None: without end."""
    return thing is None or (is_whole(thing) and thing >= least)


def is_length(count, least, most):
    """Whether a count is from least to most; None is without end."""
    return least <= count and (most is None or count <= most)


def is_some_text(thing):
    """Whether this is a text of a sign or more."""
    return is_text(thing) and thing != ""


def is_name(thing):
    """Whether this is a name: a text of one to eight small letters."""
    return isinstance(thing, str) and 1 <= len(thing) <= LONGEST_NAME and all([sign in LETTERS for sign in thing])


def is_book_name(thing):
    """Whether this is a name that a book can have."""
    return is_name(thing) and thing not in ROW_WORDS


def are_sizes(thing):
    """Whether these are one size or more."""
    return is_sequence(thing) and len(thing) > 0 and all([is_within(size, LEAST_SIZE, MOST_SIZE) for size in thing])


def are_marks(thing, many):
    """Whether these are so many marks."""
    return is_sequence(thing) and len(thing) == many and all([is_some_text(mark) for mark in thing])


def require_filling(width, fill, side):
    """NoKind of the first of these that isn't right."""
    require(is_within(width, 0, WIDEST), "width")
    require(is_fill(fill), "fill")
    require(is_one_of(side, ROW_SIDES), "side")


def filled(row, width, fill, side):
    """The row with fills to the width; "inner" is no side here."""
    before, within, after = fill_counts(side, max(0, width - len(row)))
    return fill * before + row + fill * after
