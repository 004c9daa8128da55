"""What several tests share: an oracle over Python's own fractions, and things of every kind."""

from fractions import Fraction
from inspect import Parameter, signature
from itertools import product
from math import ceil, floor

from formatwords.errors import NoDigits, NoRange
from formatwords.joins import text_machine
from formatwords.machines import Machine
from formatwords.ranges import Range
from formatwords.words import Word

MODES = ("down", "up", "floor", "roof", "half", "even")

# What is no text: None, truths, whole numbers, lists, tuples, dicts, objects of the program.
NO_TEXTS = [
    None, True, False, 0, 1, -7, 10 ** 59, [], ["1"], [["1"]], (), ("1",), ("1", "2"), {}, {"1": "1"}, {1: [2]},
    Range((0, 1), (1, 1)), Range(None, None), NoRange(), NoDigits(1),
]


def fraction_of(number):
    """A fraction of the program for one of Python's."""
    number = Fraction(number)
    return number.numerator, number.denominator


def python_of(number):
    """One of Python's fractions for one of the program."""
    return Fraction(number[0], number[1])


def rounded_by(number, mode):
    """The whole number that one of Python's fractions becomes, by the words of [12]."""
    below, above = floor(number), ceil(number)
    if below == above:
        return below
    inner, outer = (below, above) if number > 0 else (above, below)
    if mode in ("down", "up", "floor", "roof"):
        return {"down": inner, "up": outer, "floor": below, "roof": above}[mode]
    if number - below != above - number:
        return below if number - below < above - number else above
    if mode == "half":
        return outer
    return below if below % 2 == 0 else above


def refusal(test, error, action, *args, **named):
    """The refusal of this class that the action must end in."""
    with test.assertRaises(error) as caught:
        action(*args, **named)
    test.assertEqual(type(caught.exception), error)
    return caught.exception


def signature_of(action):
    """The names, kinds and defaults of what an action takes, as (name, by name alone, default)."""
    rows = []
    for one in signature(action).parameters.values():
        default = "none" if one.default is Parameter.empty else one.default
        rows.append((one.name, one.kind == Parameter.KEYWORD_ONLY, default))
    return rows


def digits_by(number, base):
    """The digits of a whole number from 0 on."""
    text = ""
    while number or not text:
        text = "0123456789abcdefghijklmnopqrstuvwxyz"[number % base] + text
        number //= base
    return text


def numeral_by(word, number):
    """The numeral of a number, by the words of [30] and [31]; fractions are Python's."""
    if word.kind == "whole":
        return number
    base = Fraction(word.base)
    if word.kind == "fixed":
        return rounded_by(number * base ** word.places, word.mode)
    if number == 0:
        return 0, 0
    e = 0
    while base ** e > abs(number):
        e -= word.step
    while base ** (e + word.step) <= abs(number):
        e += word.step
    n = rounded_by(number * base ** word.places / base ** e, word.mode)
    if abs(n) >= base ** (word.step + word.places):
        return (1 if number > 0 else -1) * word.base ** word.places, e + word.step
    return n, e


def row_by(word, number):
    """The row of a number, by the words of [30] to [33]; fractions are Python's."""
    numeral = numeral_by(word, number)
    n = numeral[0] if word.kind == "power" else numeral
    text = digits_by(abs(n), word.base)
    while len(text) < word.places + 1:
        text = "0" + text
    ahead, behind = (text[:-word.places], "." + text[-word.places:]) if word.places else (text, "")
    if word.group:
        parts = []
        while ahead:
            parts.insert(0, ahead[-word.group[1]:])
            ahead = ahead[:-word.group[1]]
        ahead = word.group[0].join(parts)
    text = ahead + behind
    if word.kind == "power":
        text += f"@{numeral[1]}"
    below = n < 0
    first = {"minus": "-" if below else "", "plus": "-" if below else "+", "blank": "-" if below else " ",
             "brackets": "(" if below else "", "behind": ""}[word.sign]
    last = {"brackets": ")", "behind": "-"}.get(word.sign, "") if below else ""
    first += f"{word.base}#" if word.mark else ""
    fills = word.fill * (word.width - len(first + text + last))
    half = len(fills) // 2
    return {"left": first + text + last + fills, "right": fills + first + text + last,
            "middle": fills[:half] + first + text + last + fills[half:],
            "inner": first + fills + text + last}[word.side]


# Of anything: what is neither a Word, nor a Machine, nor a kind is among these, too.
THINGS = NO_TEXTS + ["", "x", "no", "abc", "0", " ", "a" * 30, 2, 24, 25, [1, 2], (0, 1), (1, 2, 3), [(0, 1)],
                     {"a": {"b": [()]}}, Word(), Machine(0, (), (), ()), text_machine("ab")]


def drawn_word(draw, *, kind="whole", base=None):
    """Some Word: its fills are often digits, its groups small."""
    return Word(kind, base=base or draw.choice([2, 2, 3, 10, 16, 36]), width=draw.choice([0, 1, 2, 3, 4, 5, 6, 9, 24]),
                fill=draw.choice(" 00112#-+,_9z("), side=draw.choice(["left", "right", "middle", "inner"]),
                sign=draw.choice(["minus", "plus", "blank", "brackets", "behind"]), mark=draw.random() < 0.3,
                group=draw.choice([None, None, (",", 1), ("_", 1), ("_", 2), ("'", 3), (",", 3), ("_", 3)]),
                places=0 if kind == "whole" else draw.randint(0, 5))


def drawn_machine(draw, *, signs="ab", most=4):
    """Some Machine of few places."""
    many = draw.randint(0, most)
    steps = [(place, "".join(sorted(draw.sample(signs, draw.randint(1, len(signs))))), target)
             for place in range(many) for target in range(many) if draw.random() < 0.35]
    begins, ends = [tuple(sorted(draw.sample(range(many), draw.randint(0, many)))) for time in range(2)]
    return Machine(many, begins, tuple(sorted(steps)), ends)


def texts_of(signs, most):
    """All texts of these signs up to so many, shorter ones first, then as texts are."""
    return ["".join(row) for count in range(most + 1) for row in product(sorted(signs), repeat=count)]


def runs_by(machine, text):
    """How many runs a text has, each gone through, by the words of [60]."""
    def onward(place, rest):
        if not rest:
            return int(place in machine.ends)
        return sum(onward(target, rest[1:]) for begin, signs, target in machine.steps
                   if begin == place and rest[0] in signs)
    return sum(onward(place, text) for place in machine.begins)


def common(signs, others):
    """The signs that two texts have in common."""
    return set(signs) & set(others)


def come_to(machine):
    """All places that can be come to by steps from a begin."""
    seen = list(machine.begins)
    for place in seen:
        seen.extend({to for at, signs, to in machine.steps if at == place} - set(seen))
    return seen


def is_clear_paper(machine, paper):
    """Whether a paper keeps each row of [70]."""
    if type(paper) is not list:
        return False
    for pair in paper:
        if type(pair) is not tuple or len(pair) != 2 or [type(place) for place in pair] != [int, int]:
            return False
        if not 0 <= pair[0] <= pair[1] < machine.many or pair[0] in machine.ends and pair[1] in machine.ends:
            return False
    needed = [(one, other) for one in machine.begins for other in machine.begins if one != other]
    for place in come_to(machine):
        steps = [step for step in machine.steps if step[0] == place]
        needed += [(one[2], other[2]) for one in steps for other in steps
                   if one != other and common(one[1], other[1])]
    for pair in paper:
        needed += [(one[2], other[2]) for one in machine.steps if one[0] == pair[0]
                   for other in machine.steps if other[0] == pair[1] and common(one[1], other[1])]
    return {tuple(sorted(pair)) for pair in needed} <= set(paper)


def is_apart_paper(first, second, paper):
    """Whether a paper keeps each row of [71]."""
    if type(paper) is not list:
        return False
    for pair in paper:
        if type(pair) is not tuple or len(pair) != 2 or [type(place) for place in pair] != [int, int]:
            return False
        if not (0 <= pair[0] < first.many and 0 <= pair[1] < second.many):
            return False
        if pair[0] in first.ends and pair[1] in second.ends:
            return False
    needed = [(one, other) for one in first.begins for other in second.begins]
    for pair in paper:
        needed += [(one[2], other[2]) for one in first.steps if one[0] == pair[0]
                   for other in second.steps if other[0] == pair[1] and common(one[1], other[1])]
    return set(needed) <= set(paper)
