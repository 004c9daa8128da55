"""What several tests share: an oracle over Python's own fractions, things of every kind, and kinds drawn at random."""

from collections import Counter
from fractions import Fraction
from inspect import Parameter, signature
from itertools import product
from math import ceil, floor

from formatwords.errors import NoDigits, NoRange
from formatwords.joins import text_machine
from formatwords.kinds import Cases, Choice, Listing, Named, Number, Only, Padded, Record, Sizes, Text
from formatwords.machines import Machine
from formatwords.ranges import Range
from formatwords.words import Word

MODES = ("down", "up", "floor", "roof", "half", "even")
SIDES = ["left", "right", "middle"]
SIGNS = ["minus", "plus", "blank", "brackets", "behind"]
WIDTH = Number(Word(), least=0, most=24)

# What is no text: None, truths, whole numbers, lists, tuples, dicts, objects of the program.
NO_TEXTS = [
    None, True, False, 0, 1, -7, 10 ** 59, [], ["1"], [["1"]], (), ("1",), ("1", "2"), {}, {"1": "1"}, {1: [2]},
    Range((0, 1), (1, 1)), Range(None, None), NoRange(), NoDigits(1),
]


def fraction_of(number):
    """A fraction of the program for one of Python's."""
    number = Fraction(number)
    return number.numerator, number.denominator


def python_of(number):
    """One of Python's fractions for one of the program."""
    return Fraction(number[0], number[1])


def rounded_by(number, mode):
    """The whole number that one of Python's fractions becomes, by the words of [12]."""
    below, above = floor(number), ceil(number)
    if below == above:
        return below
    inner, outer = (below, above) if number > 0 else (above, below)
    if mode in ("down", "up", "floor", "roof"):
        return {"down": inner, "up": outer, "floor": below, "roof": above}[mode]
    if number - below != above - number:
        return below if number - below < above - number else above
    if mode == "half":
        return outer
    return below if below % 2 == 0 else above


def refusal(test, error, action, *args, **named):
    """The refusal of this class that the action must end in."""
    with test.assertRaises(error) as caught:
        action(*args, **named)
    test.assertEqual(type(caught.exception), error)
    return caught.exception


def signature_of(action):
    """The names, kinds and defaults of what an action takes, as (name, by name alone, default)."""
    rows = []
    for one in signature(action).parameters.values():
        default = "none" if one.default is Parameter.empty else one.default
        rows.append((one.name, one.kind == Parameter.KEYWORD_ONLY, default))
    return rows


def digits_by(number, base):
    """The digits of a whole number from 0 on."""
    text = ""
    while number or not text:
        text = "0123456789abcdefghijklmnopqrstuvwxyz"[number % base] + text
        number //= base
    return text


def numeral_by(word, number):
    """The numeral of a number, by the words of [30] and [31]; fractions are Python's."""
    if word.kind == "whole":
        return number
    base = Fraction(word.base)
    if word.kind == "fixed":
        return rounded_by(number * base ** word.places, word.mode)
    if number == 0:
        return 0, 0
    e = 0
    while base ** e > abs(number):
        e -= word.step
    while base ** (e + word.step) <= abs(number):
        e += word.step
    n = rounded_by(number * base ** word.places / base ** e, word.mode)
    if abs(n) >= base ** (word.step + word.places):
        return (1 if number > 0 else -1) * word.base ** word.places, e + word.step
    return n, e


def row_by(word, number):
    """The row of a number, by the words of [30] to [33]; fractions are Python's."""
    numeral = numeral_by(word, number)
    n = numeral[0] if word.kind == "power" else numeral
    text = digits_by(abs(n), word.base)
    while len(text) < word.places + 1:
        text = "0" + text
    ahead, behind = (text[:-word.places], "." + text[-word.places:]) if word.places else (text, "")
    if word.group:
        parts = []
        while ahead:
            parts.insert(0, ahead[-word.group[1]:])
            ahead = ahead[:-word.group[1]]
        ahead = word.group[0].join(parts)
    text = ahead + behind
    if word.kind == "power":
        text += f"@{numeral[1]}"
    below = n < 0
    first = {"minus": "-" if below else "", "plus": "-" if below else "+", "blank": "-" if below else " ",
             "brackets": "(" if below else "", "behind": ""}[word.sign]
    last = {"brackets": ")", "behind": "-"}.get(word.sign, "") if below else ""
    first += f"{word.base}#" if word.mark else ""
    fills = word.fill * (word.width - len(first + text + last))
    half = len(fills) // 2
    return {"left": first + text + last + fills, "right": fills + first + text + last,
            "middle": fills[:half] + first + text + last + fills[half:],
            "inner": first + fills + text + last}[word.side]


# Of anything: what is neither a Word, nor a Machine, nor a kind is among these, too.
THINGS = NO_TEXTS + ["", "x", "no", "abc", "0", " ", "a" * 30, 2, 24, 25, [1, 2], (0, 1), (1, 2, 3), [(0, 1)],
                     {"a": {"b": [()]}}, Word(), Machine(0, (), (), ()), text_machine("ab")]


def drawn_word(draw, *, kind="whole", base=None):
    """Some Word: its fills are often digits, its groups small."""
    return Word(kind, base=base or draw.choice([2, 2, 3, 10, 16, 36]), width=draw.choice([0, 1, 2, 3, 4, 5, 6, 9, 24]),
                fill=draw.choice(" 00112#-+,_9z("), side=draw.choice(["left", "right", "middle", "inner"]),
                sign=draw.choice(["minus", "plus", "blank", "brackets", "behind"]), mark=draw.random() < 0.3,
                group=draw.choice([None, None, (",", 1), ("_", 1), ("_", 2), ("'", 3), (",", 3), ("_", 3)]),
                places=0 if kind == "whole" else draw.randint(0, 5))


def drawn_machine(draw, *, signs="ab", most=4):
    """Some Machine of few places."""
    many = draw.randint(0, most)
    steps = [(place, "".join(sorted(draw.sample(signs, draw.randint(1, len(signs))))), target)
             for place in range(many) for target in range(many) if draw.random() < 0.35]
    begins, ends = [tuple(sorted(draw.sample(range(many), draw.randint(0, many)))) for time in range(2)]
    return Machine(many, begins, tuple(sorted(steps)), ends)


def texts_of(signs, most):
    """All texts of these signs up to so many, shorter ones first, then as texts are."""
    return ["".join(row) for count in range(most + 1) for row in product(sorted(signs), repeat=count)]


def runs_by(machine, text):
    """How many runs a text has, each gone through, by the words of [60]."""
    def onward(place, rest):
        if not rest:
            return int(place in machine.ends)
        return sum(onward(target, rest[1:]) for begin, signs, target in machine.steps
                   if begin == place and rest[0] in signs)
    return sum(onward(place, text) for place in machine.begins)


def common(signs, others):
    """The signs that two texts have in common."""
    return set(signs) & set(others)


def come_to(machine):
    """All places that can be come to by steps from a begin."""
    seen = list(machine.begins)
    for place in seen:
        seen.extend({to for at, signs, to in machine.steps if at == place} - set(seen))
    return seen


def is_clear_paper(machine, paper):
    """Whether a paper keeps each row of [70]."""
    if type(paper) is not list:
        return False
    for pair in paper:
        if type(pair) is not tuple or len(pair) != 2 or [type(place) for place in pair] != [int, int]:
            return False
        if not 0 <= pair[0] <= pair[1] < machine.many or pair[0] in machine.ends and pair[1] in machine.ends:
            return False
    needed = [(one, other) for one in machine.begins for other in machine.begins if one != other]
    for place in come_to(machine):
        steps = [step for step in machine.steps if step[0] == place]
        needed += [(one[2], other[2]) for one in steps for other in steps
                   if one != other and common(one[1], other[1])]
    for pair in paper:
        needed += [(one[2], other[2]) for one in machine.steps if one[0] == pair[0]
                   for other in machine.steps if other[0] == pair[1] and common(one[1], other[1])]
    return {tuple(sorted(pair)) for pair in needed} <= set(paper)


def is_apart_paper(first, second, paper):
    """Whether a paper keeps each row of [71]."""
    if type(paper) is not list:
        return False
    for pair in paper:
        if type(pair) is not tuple or len(pair) != 2 or [type(place) for place in pair] != [int, int]:
            return False
        if not (0 <= pair[0] < first.many and 0 <= pair[1] < second.many):
            return False
        if pair[0] in first.ends and pair[1] in second.ends:
            return False
    needed = [(one, other) for one in first.begins for other in second.begins]
    for pair in paper:
        needed += [(one[2], other[2]) for one in first.steps if one[0] == pair[0]
                   for other in second.steps if other[0] == pair[1] and common(one[1], other[1])]
    return set(needed) <= set(paper)


def number_of_word(word, numeral):
    """The number that has this numeral by a whole or fixed Word."""
    if word.kind == "whole":
        return numeral
    return fraction_of(Fraction(numeral, word.base ** word.places))


def short_things(kind, most):
    """All things whose row has so many signs at most, as tuples (row, thing)."""
    rows = {Number: short_numbers, Only: short_only, Choice: short_choices, Text: short_texts, Sizes: short_sizes,
            Record: short_dicts, Listing: short_lists, Cases: short_cases, Padded: short_padded,
            Named: lambda kind, most: []}[type(kind)](kind, most)
    return [(row, thing) for row, thing in rows if len(row) <= most]


def short_numbers(kind, most):
    found = []
    bound = kind.word.base ** most
    low, high = [None if end is None else numeral_by(kind.word, Fraction(*end) if type(end) is tuple else end)
                 for end in (kind.least, kind.most)]
    for numeral in range(-bound if low is None else max(low, -bound), 1 + (bound if high is None else min(high, bound))):
        thing = number_of_word(kind.word, numeral)
        if kind.has(thing):
            found.append((kind.write(thing), thing))
    return found


def short_only(kind, most):
    return [(kind.row, kind.thing)]


def short_choices(kind, most):
    found = {}
    for one in kind.kinds:
        for row, thing in short_things(one, most):
            found[thing] = kind.write(thing)
    return [(found[thing], thing) for thing in found]


def short_texts(kind, most):
    texts = ["".join(row) for count in range(most + 1) for row in product(kind.signs, repeat=count)]
    return [(kind.write(text), text) for text in texts if kind.has(text)]


def short_sizes(kind, most):
    least = len(kind.write(0)) - 1
    bound = 10 ** max(0, most - least)
    for size in kind.sizes:
        bound *= size
    return [(kind.write(number), number) for number in range(bound)] if most > least else []


def short_lists(kind, most):
    inner = short_things(kind.kind, most)
    found = []
    level = [("", [])]
    many = 0
    while level:
        if many >= kind.least and (kind.most is None or many <= kind.most):
            found.extend(level)
        if many == kind.most:
            break
        between = kind.between if many else ""
        level = [(row + between + more, things + [thing]) for row, things in level for more, thing in inner
                 if len(row + between + more) <= most]
        many += 1
    return found


def short_cases(kind, most):
    return [(row, (tag, thing)) for tag, one in kind.cases for row, thing in short_things(one, most)]


def short_padded(kind, most):
    return [(kind.write(thing), thing) for row, thing in short_things(kind.kind, most)]


def short_dicts(kind, most):
    fields = [piece for piece in kind.pieces + kind.unwritten if isinstance(piece, tuple)]
    told = {name: [number for number in range(25) if one.has(number)] for name, one in kind.unwritten}
    others = {field[2] for field in fields if len(field) == 3}
    for field in fields:
        if field[0] in others:
            told[field[0]] = [number for number in range(25) if field[1].has(number)]
    found = []
    names = sorted(told)
    for widths in product(*[told[name] for name in names]):
        fixed = dict(zip(names, widths))
        level = [("", {name: fixed[name] for name in names})]
        for piece in kind.pieces:
            if isinstance(piece, str):
                more = [(piece, None)]
            elif len(piece) == 3:
                word = Word(**{**vars(piece[1].word), "width": fixed[piece[2]]})
                one = piece[1]
                more = short_things(Number(word, least=one.least, most=one.most, rest=one.rest, ahead=one.ahead,
                                           behind=one.behind), most)
            elif piece[0] in fixed:
                more = [(piece[1].write(fixed[piece[0]]), fixed[piece[0]])]
            else:
                more = short_things(piece[1], most)
            level = [(row + other, thing if isinstance(piece, str) else {**thing, piece[0]: part})
                     for row, thing in level for other, part in more if len(row + other) <= most]
        found.extend(level)
    return found


def counts_of(kind, most):
    """How many things have each row of so many signs at most."""
    return Counter(row for row, thing in short_things(kind, most))


def numbers_with(kind, row):
    """All numbers that a Number writes so, taken out of the row wherever they may begin and end."""
    word = kind.word
    if not row.startswith(kind.ahead) or not row.endswith(kind.behind):
        return []
    core = row[len(kind.ahead):len(row) - len(kind.behind)]
    # Longer than the width there are no fills: sign and mark have four signs ahead at most, one behind.
    beside = len(core) if len(core) <= word.width else 5
    found = []
    for first in range(min(beside, len(core))):
        for last in range(max(first + 1, len(core) - beside), len(core) + 1):
            digits = core[first:last].replace(".", "")
            if word.group is not None:
                digits = digits.replace(word.group[0], "")
            try:
                numeral = int(digits, word.base) if digits.isalnum() and digits == digits.lower() else None
            except ValueError:
                continue
            for one in ([] if numeral is None else [numeral, -numeral]):
                thing = number_of_word(word, one)
                if thing not in found and kind.has(thing) and kind.write(thing) == row:
                    found.append(thing)
    return found


def drawn_number(draw, *, kind=None, base=None, places=None):
    """Some Number, whose fills are often digits or signs."""
    kind = kind or draw.choice(["whole", "whole", "fixed"])
    base = base or draw.choice([2, 2, 3, 10])
    word = Word(kind, base=base, width=draw.choice([0, 0, 1, 2, 3, 4, 5]), fill=draw.choice(" 00112#-+,(.)"),
                side=draw.choice(SIDES + ["inner"]), sign=draw.choice(SIGNS),
                mark=draw.random() < 0.15, group=draw.choice([None, None, (",", 1), ("_", 2), ("'", 3)]),
                places=(draw.choice([0, 1, 2]) if places is None else places) if kind == "fixed" else 0)
    low, high = sorted([draw.randint(-30, 30), draw.randint(-30, 30)])
    least = draw.choice([None, low])
    most = draw.choice([None, high])
    by = draw.choice([1, 2, 3, 4, 5, 6])
    return Number(word, least=None if least is None else number_of_word(word, least),
                  most=None if most is None else number_of_word(word, most),
                  rest=draw.choice([None, None, (draw.randrange(by), by)]),
                  ahead=draw.choice(["", "", "", "1", "<"]), behind=draw.choice(["", "", "", "0", "-"]))


def drawn_choice(draw):
    """Some Choice, in which several may have a thing."""
    kind = draw.choice(["whole", "fixed"])
    base = draw.choice([2, 3, 10])
    places = draw.choice([0, 1])
    word = Word(kind, base=base, places=places if kind == "fixed" else 0)
    kinds = []
    for time in range(draw.randint(1, 4)):
        if draw.random() < 0.4:
            kinds.append(Only(number_of_word(word, draw.randint(-4, 4)), draw.choice(["1", "x", "-1", "10", "no"])))
        else:
            kinds.append(drawn_number(draw, kind=kind, base=base, places=places))
    return Choice(kinds)


def drawn_text(draw):
    """Some Text, whose fill or quote may be among its signs."""
    signs = "".join(sorted(draw.sample("ab',0", draw.randint(1, 2))))
    least = draw.choice([0, 0, 1, 2])
    return Text(signs, least=least, most=draw.choice([None, least, least + 2]), quote=draw.choice([None, None, "'", "a"]),
                width=draw.choice([0, 0, 2, 3, 5]), fill=draw.choice(" ab',0"), side=draw.choice(SIDES))


def drawn_sizes(draw):
    """Some Sizes, with marks of figures, too."""
    sizes = [draw.choice([2, 3, 10, 11, 60]) for time in range(draw.randint(1, 2))]
    return Sizes(sizes, [draw.choice([":", "1", "d ", "0"]) for size in sizes])


def drawn_width(draw):
    """Some Number of widths, perhaps none."""
    low, high = sorted([draw.randint(0, 5), draw.randint(0, 5)])
    return Number(Word(width=draw.choice([0, 0, 2]), fill="0", sign=draw.choice(["minus", "plus"])), least=low, most=high,
                  rest=draw.choice([None, None, (1, 2)]))


def drawn_record(draw, depth):
    """Some Record, with widths told by fields and by unwritten ones."""
    pieces = []
    unwritten = []
    for name in draw.sample(["v", "w"], draw.choice([0, 0, 1, 1, 2])):
        kind = drawn_width(draw)
        if draw.random() < 0.5:
            unwritten.append((name, kind))
        else:
            pieces.append((name, kind))
        for time in range(draw.choice([0, 1, 1, 2])):
            pieces.append(("n" + "ab"[time] + name, drawn_number(draw), name))
    for time in range(draw.choice([0, 1, 1, 2])):
        pieces.append(draw.choice([":", "1", "-", "ab", " "]))
    for name in draw.sample("abcd", draw.choice([0, 0, 1, 2])):
        pieces.append((name, drawn_kind(draw, depth - 1)))
    draw.shuffle(pieces)
    return Record(pieces, unwritten=unwritten)


def drawn_kind(draw, depth=2):
    """Some kind, at most so deep."""
    plain = [lambda: drawn_number(draw), lambda: drawn_choice(draw), lambda: drawn_text(draw), lambda: drawn_sizes(draw),
             lambda: Only(draw.randint(-3, 3), draw.choice(["1", "ab", " "])), lambda: Named("a")]
    if depth <= 0 or draw.random() < 0.3:
        return draw.choice(plain)()
    which = draw.choice(["record", "listing", "cases", "padded"])
    if which == "record":
        return drawn_record(draw, depth)
    if which == "listing":
        least = draw.choice([0, 0, 1, 2])
        return Listing(drawn_kind(draw, depth - 1), draw.choice([",", "1", ", ", "a", "-"]), least=least,
                       most=draw.choice([None, least, least + 2]))
    if which == "cases":
        tags = draw.sample(["a", "b", "keep", "num"], draw.randint(1, 3))
        return Cases([(tag, drawn_kind(draw, depth - 1)) for tag in tags])
    return Padded(drawn_kind(draw, depth - 1), draw.choice([0, 1, 3, 4, 5]), fill=draw.choice(" 01-a,"),
                  side=draw.choice(SIDES))
