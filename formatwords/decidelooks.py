"""Papers looked at: what is let by is so, whoever wrote it."""

from formatwords.deciding import meeting_moves, parting_moves, unlike_pairs
from formatwords.plain import is_within
from formatwords.walks import come_to, common_moves, moves_by_place


def shows_clear(machine, thing):
    """Whether this, whatever it is, is a paper that shows that no text has two runs."""
    if not are_pairs(thing, machine.many, machine.many) or not all([one <= other for one, other in thing]):
        return False
    known = {pair: True for pair in thing}
    if has_ends(known, machine.ends, machine.ends) or not has_all(known, unlike_pairs(machine.begins)):
        return False
    rows = moves_by_place(machine)
    for place in come_to(machine.begins, machine.steps):
        if not has_all(known, [pair for mask, pair in parting_moves(rows[place])]):
            return False
    for one, other in known:
        if not has_all(known, [pair for mask, pair in meeting_moves(rows[one], rows[other])]):
            return False
    return True


def shows_apart(one, other, thing):
    """Whether this, whatever it is, is a paper that shows that no text has a run in both."""
    if not are_pairs(thing, one.many, other.many):
        return False
    known = {pair: True for pair in thing}
    begins = [(first, second) for first in one.begins for second in other.begins]
    if has_ends(known, one.ends, other.ends) or not has_all(known, begins):
        return False
    rows, others = moves_by_place(one), moves_by_place(other)
    for place, target in known:
        found = common_moves(rows[place], others[target])
        if not has_all(known, [(first, second) for mask, first, second in found]):
            return False
    return True


def are_pairs(thing, many, others):
    """Whether this is a list of tuples of two places, of Machines that have so many."""
    return isinstance(thing, list) and all([
        isinstance(pair, tuple) and len(pair) == 2
        and is_within(pair[0], 0, many - 1) and is_within(pair[1], 0, others - 1)
        for pair in thing
    ])


def has_all(known, pairs):
    """Whether all these are known."""
    return all([pair in known for pair in pairs])


def has_ends(known, ends, others):
    """Whether a known pair is of two ends."""
    last = {place: True for place in ends}
    also_last = {place: True for place in others}
    return any([one in last and other in also_last for one, other in known])
