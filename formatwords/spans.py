"""Sets of whole numbers as spans (low, high, mask): all from low to high whose rests by a modulus are in the mask."""

# The rests are the bits of the mask; low or high may be None: without end there.


def all_numbers(modulus):
    """The spans of all whole numbers."""
    return [(None, None, (1 << modulus) - 1)]


def parted_spans(spans, low, high, mask):
    """Of these spans those that are in one more span too, and those that are not."""
    inside, outside = [], []
    for first, last, rests in spans:
        if low is not None:
            outside.append((first, lesser(last, low - 1), rests))
        if high is not None:
            outside.append((greater(first, high + 1), last, rests))
        middle = (greater(first, low), lesser(last, high))
        inside.append((*middle, rests & mask))
        outside.append((*middle, rests & ~mask))
    return filled_spans(inside), filled_spans(outside)


def filled_spans(spans):
    """Those that are not plainly without numbers."""
    return [
        (low, high, mask) for low, high, mask in spans
        if mask != 0 and (low is None or high is None or low <= high)
    ]


def greater(one, other):
    """The greater of two bounds below; None is without end."""
    if one is None or other is None:
        return other if one is None else one
    return max(one, other)


def lesser(one, other):
    """The lesser of two bounds above; None is without end."""
    if one is None or other is None:
        return other if one is None else one
    return min(one, other)


def magnitudes(spans, below, modulus):
    """The spans of the numbers without their sign, of those below 0 or of all others."""
    if not below:
        return parted_spans(spans, 0, None, -1)[0]
    turned = []
    for low, high, mask in parted_spans(spans, None, -1, -1)[0]:
        turned.append((-high, None if low is None else -low, turned_mask(mask, modulus)))
    return turned


def turned_mask(mask, modulus):
    """The rests of the numbers times -1."""
    return sum([1 << -rest % modulus for rest in range(modulus) if mask >> rest & 1 == 1])


def shortened(mask, modulus):
    """The same rests by the least modulus that tells them."""
    for period in range(1, modulus):
        first = mask & ((1 << period) - 1)
        if modulus % period == 0 and sum([first << at for at in range(0, modulus, period)]) == mask:
            return first, period
    return mask, modulus
