"""Whether the rows of rising numbers rise, as texts."""

from formatwords.written import write


def unsorted(word, low, high=None):
    """The least number above low, up to high, whose row doesn't stand behind that of the number one less, or None."""
    if low is None:
        return nearest_unsorted(word, high)
    number = low + 1
    while high is None or number <= high:
        if not stands_behind(word, number):
            return number
        number = next_telling(word.base, number)
    return None


def stands_behind(word, number):
    """Whether the row of a number stands behind that of the number one less."""
    return write(word, number) > write(word, number - 1)


def next_telling(base, number):
    """The next number whose row may not stand behind the one ahead of it."""
    # Above nought rows of as many digits have one shape, and rise. Below it they fall: there the next one or the one
    # behind it is told already.
    if number <= 0:
        return number + 1
    bound = base
    while bound <= number:
        bound *= base
    return bound


def nearest_unsorted(word, high):
    """Of all numbers up to high such a one that is nearest to nought, of two the one above nought."""
    # Without an end below there is no least one: all but a few below nought are such.
    size = 0 if high is None else max(0, -high)
    while True:
        for number in (size, -size):
            if (high is None or number <= high) and not stands_behind(word, number):
                return number
        size += 1
