"""Words: each tells how a number is written."""

from formatwords.digits import TEN
from formatwords.errors import NoWord
from formatwords.fractions import HALF, MODES
from formatwords.plain import is_one_of, is_sign, is_within

WIDEST = 24
MOST_PLACES = 12
BLANK = " "
LEAST_BASE = 2
MOST_BASE = 36
MOST_SIZE = 9
MOST_STEP = 4
KINDS = ("whole", "fixed", "power")
SIDES = ("left", "right", "middle", "inner")
SIDE_TEXTS = {"left": "<", "right": ">", "middle": "^", "inner": "="}
SIGNS = ("minus", "plus", "blank", "brackets", "behind")
SIGN_TEXTS = {"minus": "", "plus": "+", "blank": "~", "brackets": "(", "behind": ")"}
GROUP_SIGNS = (",", "_", "'")


class Word:
    """How a number is written: its kind, base, width, fill, side, sign, mark, group, places, mode and step."""

    def __init__(self, kind="whole", *, base=TEN, width=0, fill=BLANK, side="right", sign="minus", mark=False,
                 group=None, places=0, mode=HALF, step=1):
        self.kind = kind
        self.base = base
        self.width = width
        self.fill = fill
        self.side = side
        self.sign = sign
        self.mark = mark
        self.group = group
        self.places = places
        self.mode = mode
        self.step = step
        field = first_wrong(self)
        if field is None:
            field = first_unfit(kind, group, places, mode, step)
        if field is not None:
            raise NoWord(field)

    def __eq__(self, other):
        return (
            isinstance(other, Word) and self.kind == other.kind and self.base == other.base
            and self.width == other.width and self.fill == other.fill and self.side == other.side
            and self.sign == other.sign and self.mark == other.mark and self.group == other.group
            and self.places == other.places and self.mode == other.mode and self.step == other.step
        )

    def __str__(self):
        return "".join([
            filling_text(self.fill, self.side), SIGN_TEXTS[self.sign], mark_text(self.mark), width_text(self.width),
            group_text(self.group), places_text(self.places), mode_text(self.mode), letter_of(self.kind),
            base_text(self.base), step_text(self.step),
        ])

    def __repr__(self):
        return f"Word({str(self)})"


def widened(word, width):
    """The Word with this width in place of its own."""
    return Word(word.kind, base=word.base, width=width, fill=word.fill, side=word.side, sign=word.sign, mark=word.mark,
                group=word.group, places=word.places, mode=word.mode, step=word.step)


def first_wrong(word):
    """The name of the first field that is not right in itself, or None."""
    looks = [
        ("kind", is_one_of(word.kind, KINDS)),
        ("base", is_within(word.base, LEAST_BASE, MOST_BASE)),
        ("width", is_within(word.width, 0, WIDEST)),
        ("fill", is_fill(word.fill)),
        ("side", is_one_of(word.side, SIDES)),
        ("sign", is_one_of(word.sign, SIGNS)),
        ("mark", isinstance(word.mark, bool)),
        ("group", word.group is None or is_group(word.group)),
        ("places", is_within(word.places, 0, MOST_PLACES)),
        ("mode", is_one_of(word.mode, MODES)),
        ("step", is_within(word.step, 1, MOST_STEP)),
    ]
    for name, right in looks:
        if not right:
            return name
    return None


def first_unfit(kind, group, places, mode, step):
    """The name of the first of these, each right in itself, that doesn't go with the kind, or None."""
    if kind == "power" and group is not None:
        return "group"
    if kind == "whole" and places != 0:
        return "places"
    if kind == "whole" and mode != HALF:
        return "mode"
    if kind != "power" and step != 1:
        return "step"
    return None


def is_fill(thing):
    """Whether this is a sign with which a row may be filled."""
    return is_sign(thing) and thing not in ("{", "}")


def is_group(thing):
    """Whether this is a sign between groups, with their size."""
    return (
        isinstance(thing, tuple) and len(thing) == 2
        and is_one_of(thing[0], GROUP_SIGNS) and is_within(thing[1], 1, MOST_SIZE)
    )


def filling_text(fill, side):
    """The part of a Word's text for fill and side."""
    if fill != BLANK:
        return fill + SIDE_TEXTS[side]
    return "" if side == "right" else SIDE_TEXTS[side]


def mark_text(mark):
    """The part of a Word's text for its mark."""
    return "#" if mark else ""


def width_text(width):
    """The part of a Word's text for its width."""
    return "" if width == 0 else str(width)


def group_text(group):
    """The part of a Word's text for its group."""
    return "" if group is None else f"{group[0]}{group[1]}"


def places_text(places):
    """The part of a Word's text for its places."""
    return "" if places == 0 else f".{places}"


def mode_text(mode):
    """The part of a Word's text for its mode."""
    return "" if mode == HALF else f"!{mode[0]}"


def letter_of(kind):
    """The part of a Word's text for its kind, the only one that is never left out."""
    return kind[0]


def base_text(base):
    """The part of a Word's text for its base."""
    return "" if base == TEN else str(base)


def step_text(step):
    """The part of a Word's text for its step."""
    return "" if step == 1 else f"/{step}"
