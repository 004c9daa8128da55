"""What several files share and none of them owns."""

# Every sign that a text may have, in the order of texts. The sign for per cent is none of them.
TEXT_SIGNS = " !\"#$&'()*+,-./0123456789:;<=>?@ABCDEFGHIJKLMNOPQRSTUVWXYZ[\\]^_`abcdefghijklmnopqrstuvwxyz{|}~"


def is_whole(thing):
    """Whether this is a whole number: a truth is none, though Python counts it among the ints."""
    return isinstance(thing, int) and not isinstance(thing, bool)


def is_within(thing, least, most):
    """Whether this is a whole number from least to most."""
    return is_whole(thing) and least <= thing <= most


def is_one_of(thing, words):
    """Whether this is one of these texts."""
    return isinstance(thing, str) and thing in words


def is_sign(thing):
    """Whether this is a text of just one sign."""
    return isinstance(thing, str) and len(thing) == 1 and thing in TEXT_SIGNS


def is_text(thing):
    """Whether this is a text: a text without signs is one, too."""
    return isinstance(thing, str) and all([sign in TEXT_SIGNS for sign in thing])


def is_signs(thing):
    """Whether this is a text of one or more signs, rising, each once."""
    return is_text(thing) and len(thing) > 0 and is_rising(thing)


def is_rising(row):
    """Whether of each two that stand side by side the second is the greater one."""
    return all([one < other for one, other in zip(row, row[1:])])


def power(base, exponent):
    """The base, so many times with itself; the exponent is from 0 on."""
    product = 1
    for count in range(exponent):
        product *= base
    return product


def copied(thing):
    """The same thing again, such that what is done to the one does not show in the other."""
    if isinstance(thing, list):
        return [copied(part) for part in thing]
    if isinstance(thing, tuple):
        return tuple([copied(part) for part in thing])
    if isinstance(thing, dict):
        return {key: copied(thing[key]) for key in thing}
    return thing
