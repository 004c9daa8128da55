"""Nets of rows that are filled to a width."""

from formatwords.nets import either_net, explored, text_net, then_net
from formatwords.written import fill_counts


def filled_net(net, width, fill, side):
    """A Net of the same runs, each of a text with fills to the width; "inner" is no side here."""
    nets = [long_net(net, width)]
    live = live_levels(net, width)
    for lack in range(1, width + 1):
        before, within, after = fill_counts(side, lack)
        short = exact_net(net, width - lack, live)
        if len(short.rows) > 0:
            nets.append(then_net([text_net(fill * before), short, text_net(fill * after)]))
    return nets[0] if len(nets) == 1 else either_net(nets)


def live_levels(net, most):
    """For each count of signs below most all places from which a text of so many leads to an end."""
    levels = []
    level = {place: True for place in net.ends}
    for count in range(most):
        levels.append(level)
        level = {place: True for place, row in enumerate(net.rows) if any([target in level for mask, target in row])}
    return levels


def exact_net(net, long, live):
    """A Net of those runs whose text has just so many signs."""
    def moves(key):
        place, left = key
        if left == 0:
            return []
        return [(mask, (target, left - 1)) for mask, target in net.rows[place] if target in live[left - 1]]

    def is_end(key):
        return key[1] == 0

    return explored([(place, long) for place in net.begins if place in live[long]], moves, is_end)


def long_net(net, least):
    """A Net of those runs whose text has at least so many signs."""
    if least == 0:
        return net
    known = {place: True for place in net.ends}

    def moves(key):
        count = min(key[1] + 1, least)
        return [(mask, (target, count)) for mask, target in net.rows[key[0]]]

    def is_end(key):
        return key[1] == least and key[0] in known

    return explored([(place, 0) for place in net.begins], moves, is_end)
