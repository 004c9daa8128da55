"""Words that stand between blanks: packed texts, and numbers by figures."""

from formatwords.digits import number_of, signed_digits
from formatwords.errors import NoDigits
from formatwords.kindlooks import is_fraction
from formatwords.plain import is_text, is_whole

NONE = "."
QUOTE = '"'
TILDE = "~"
# What stands behind a tilde for a blank and for the tilde itself.
ESCAPES = {"b": " ", "t": "~"}


def packed(text):
    """A text as a word without blanks."""
    return QUOTE + text.replace("~", "~t").replace(" ", "~b")


def unpacked(word):
    """The text that is so packed, in a list; none where the word is no packed text."""
    if not word.startswith(QUOTE) or not is_text(word):
        return []
    parts = word[1:].split(TILDE)
    if not all([part[:1] in ESCAPES for part in parts[1:]]):
        return []
    text = parts[0] + "".join([ESCAPES[part[0]] + part[1:] for part in parts[1:]])
    return [text] if packed(text) == word else []


def number_text(number):
    """A whole number by figures, a fraction by two such, and None."""
    if number is None:
        return NONE
    if is_whole(number):
        return signed_digits(number)
    return f"{signed_digits(number[0])}/{signed_digits(number[1])}"


def whole_of(word):
    """The whole number that is so written, in a list; none where the word is none."""
    try:
        number = number_of(word.removeprefix("-"))
    except NoDigits:
        return []
    number = -number if word.startswith("-") else number
    return [number] if signed_digits(number) == word else []


def number_in(word):
    """The whole number or the fraction that is so written, in a list; none where the word is neither."""
    top, slash, bottom = word.partition("/")
    if slash == "":
        return whole_of(word)
    return [pair for pair in zip(whole_of(top), whole_of(bottom)) if is_fraction(pair)]
