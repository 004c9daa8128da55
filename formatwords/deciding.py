"""Machines decided: whether a text has two runs, and whether two Machines have a text in common."""

from formatwords.walks import common_moves, least_way, levels_to, moves_by_place


def clear(machine):
    """("alike", the least text that has two runs or more); else ("clear", a paper that shows that none has)."""
    rows = moves_by_place(machine)
    known = {place: True for place in machine.ends}

    # A place alone, (place,), is where two runs are that are one so far; two places are where they have parted.
    def moves(where):
        if len(where) == 2:
            return meeting_moves(rows[where[0]], rows[where[1]])
        row = rows[where[0]]
        return [(mask, (target,)) for mask, target in row] + parting_moves(row)

    def is_end(where):
        return len(where) == 2 and where[0] in known and where[1] in known

    begins = [(place,) for place in machine.begins] + unlike_pairs(machine.begins)
    levels, ends = levels_to(begins, moves, is_end)
    if len(ends) > 0:
        return "alike", least_way(levels, ends, moves)
    return "clear", sorted([where for level in levels for where in level if len(where) == 2])


def unlike_pairs(places):
    """Each two of these rising places, the lesser one first."""
    return [(one, other) for at, one in enumerate(places) for other in places[at + 1:]]


def parting_moves(row):
    """For each two unlike moves from a place that have a sign in common the signs, as a mask, and where they lead."""
    found = []
    for at, (mask, target) in enumerate(row):
        found.extend([(mask & also, risen(target, other)) for also, other in row[at + 1:] if mask & also != 0])
    return found


def meeting_moves(row, other):
    """For each two moves from two places that have a sign in common the signs, as a mask, and where they lead."""
    return [(mask, risen(place, target)) for mask, place, target in common_moves(row, other)]


def risen(one, other):
    """The two places, the lesser one first."""
    return (one, other) if one <= other else (other, one)


def apart(one, other):
    """("met", the least text that has a run in both); else ("apart", a paper that shows that none has)."""
    rows, others = moves_by_place(one), moves_by_place(other)
    known = {place: True for place in one.ends}
    also_known = {place: True for place in other.ends}

    def moves(where):
        found = common_moves(rows[where[0]], others[where[1]])
        return [(mask, (first, second)) for mask, first, second in found]

    def is_end(where):
        return where[0] in known and where[1] in also_known

    begins = [(first, second) for first in one.begins for second in other.begins]
    levels, ends = levels_to(begins, moves, is_end)
    if len(ends) > 0:
        return "met", least_way(levels, ends, moves)
    return "apart", sorted([where for level in levels for where in level])
