"""Words read back from their texts."""

from formatwords.errors import NoText
from formatwords.fractions import MODES
from formatwords.plain import TEXT_SIGNS
from formatwords.words import GROUP_SIGNS, KINDS, LEAST_BASE, MOST_BASE, MOST_PLACES, MOST_SIZE, MOST_STEP
from formatwords.words import SIDES, SIGN_TEXTS, SIGNS, WIDEST, Word, base_text, filling_text, first_unfit
from formatwords.words import group_text, is_fill, letter_of, mark_text, mode_text, places_text, step_text, width_text


class PartReader:
    """Takes one part behind the other off a text, and keeps how far some Word's text goes along with it."""

    def __init__(self, text):
        self.text = text
        self.at = 0
        self.far = 0

    def take(self, choices):
        """What the longest of these texts that stands next is for; NoText where none does."""
        # The longest: a sign that is a side, with one more such sign behind it, is a fill.
        rest = self.text[self.at:]
        best = None
        for choice in choices:
            self.far = max(self.far, self.at + common_signs(choice, rest))
            if rest.startswith(choice) and (best is None or len(choice) > len(best)):
                best = choice
        if best is None:
            raise NoText(self.far)
        self.at += len(best)
        return choices[best]


def common_signs(one, other):
    """With how many signs that are alike two texts begin."""
    count = 0
    for first, second in zip(one, other):
        if first != second:
            return count
        count += 1
    return count


def read_word(text):
    """The Word that is just so written; NoText of all else."""
    if not isinstance(text, str):
        raise NoText(0)
    reader = PartReader(text)
    fill, side = reader.take(fillings())
    sign = reader.take({SIGN_TEXTS[one]: one for one in SIGNS})
    mark = reader.take({mark_text(one): one for one in (False, True)})
    width = reader.take({width_text(one): one for one in range(WIDEST + 1)})
    group = reader.take(groups())
    places = reader.take({places_text(one): one for one in range(MOST_PLACES + 1)})
    mode = reader.take({mode_text(one): one for one in MODES})
    kind = reader.take({letter_of(one): one for one in KINDS if first_unfit(one, group, places, mode, 1) is None})
    base = reader.take({base_text(one): one for one in range(LEAST_BASE, MOST_BASE + 1)})
    step = reader.take(steps_of(kind, group, places, mode))
    if reader.at < len(text):
        raise NoText(reader.far)
    return Word(kind, base=base, width=width, fill=fill, side=side, sign=sign, mark=mark,
                group=group, places=places, mode=mode, step=step)


def fillings():
    """All fills and sides by their texts."""
    fills = [sign for sign in TEXT_SIGNS if is_fill(sign)]
    return {filling_text(fill, side): (fill, side) for fill in fills for side in SIDES}


def groups():
    """All groups by their texts, none too."""
    told = {group_text((sign, size)): (sign, size) for sign in GROUP_SIGNS for size in range(1, MOST_SIZE + 1)}
    told[group_text(None)] = None
    return told


def steps_of(kind, group, places, mode):
    """The steps that go with a kind by their texts."""
    steps = [step for step in range(1, MOST_STEP + 1) if first_unfit(kind, group, places, mode, step) is None]
    return {step_text(step): step for step in steps}
