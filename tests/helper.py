"""What several tests share: an oracle over Python's own fractions, and things of every kind."""

from fractions import Fraction
from inspect import Parameter, signature
from math import ceil, floor

from formatwords.errors import NoDigits, NoRange
from formatwords.ranges import Range

MODES = ("down", "up", "floor", "roof", "half", "even")

# What is no text: None, truths, whole numbers, lists, tuples, dicts, objects of the program.
NO_TEXTS = [
    None, True, False, 0, 1, -7, 10 ** 59, [], ["1"], [["1"]], (), ("1",), ("1", "2"), {}, {"1": "1"}, {1: [2]},
    Range((0, 1), (1, 1)), Range(None, None), NoRange(), NoDigits(1),
]


def fraction_of(number):
    """A fraction of the program for one of Python's."""
    number = Fraction(number)
    return number.numerator, number.denominator


def python_of(number):
    """One of Python's fractions for one of the program."""
    return Fraction(number[0], number[1])


def rounded_by(number, mode):
    """The whole number that one of Python's fractions becomes, by the words of [12]."""
    below, above = floor(number), ceil(number)
    if below == above:
        return below
    inner, outer = (below, above) if number > 0 else (above, below)
    if mode in ("down", "up", "floor", "roof"):
        return {"down": inner, "up": outer, "floor": below, "roof": above}[mode]
    if number - below != above - number:
        return below if number - below < above - number else above
    if mode == "half":
        return outer
    return below if below % 2 == 0 else above


def refusal(test, error, action, *args, **named):
    """The refusal of this class that the action must end in."""
    with test.assertRaises(error) as caught:
        action(*args, **named)
    test.assertEqual(type(caught.exception), error)
    return caught.exception


def signature_of(action):
    """The names, kinds and defaults of what an action takes, as (name, by name alone, default)."""
    rows = []
    for one in signature(action).parameters.values():
        default = "none" if one.default is Parameter.empty else one.default
        rows.append((one.name, one.kind == Parameter.KEYWORD_ONLY, default))
    return rows
