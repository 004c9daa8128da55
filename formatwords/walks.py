"""Walks by steps from place to place, and the least text that leads to an end."""

from formatwords.plain import TEXT_SIGNS


def steps_by_place(machine):
    """For each place the steps from it, as tuples (signs, place)."""
    rows = [[] for place in range(machine.many)]
    for place, signs, target in machine.steps:
        rows[place].append((signs, target))
    return rows


def moves_by_place(machine):
    """For each place the steps from it, as tuples (mask, place)."""
    return [[(mask_of(signs), target) for signs, target in row] for row in steps_by_place(machine)]


def mask_of(signs):
    """The signs as the bits of a number: so what two steps have in common is told at once."""
    mask = 0
    for sign in signs:
        mask |= 1 << TEXT_SIGNS.find(sign)
    return mask


def signs_of(mask):
    """The signs of a mask, rising."""
    return "".join([sign for at, sign in enumerate(TEXT_SIGNS) if mask >> at & 1 == 1])


def come_to(begins, steps):
    """All places that can be come to by steps from these, themselves too."""
    targets = {}
    for place, signs, target in steps:
        targets.setdefault(place, []).append(target)
    seen = {place: True for place in begins}
    ahead = list(begins)
    while len(ahead) > 0:
        for target in targets.get(ahead.pop(), []):
            if target not in seen:
                seen[target] = True
                ahead.append(target)
    return seen


def turned_steps(steps):
    """The steps, each from where it led to."""
    return [(target, signs, place) for place, signs, target in steps]


def live_places(machine):
    """All places from which an end can be come to."""
    return come_to(machine.ends, turned_steps(machine.steps))


def common_moves(row, other):
    """For each two moves that have a sign in common the signs, as a mask, and both places."""
    return [(mask & also, place, target) for mask, place in row for also, target in other if mask & also != 0]


def levels_to(begins, moves, is_end):
    """Lists of what is first come to by no moves, by one, and so on, up to an end; and the ends in the last of them."""
    level = list(begins)
    seen = {one: True for one in level}
    levels = []
    while len(level) > 0:
        levels.append(level)
        ends = [one for one in level if is_end(one)]
        if len(ends) > 0:
            return levels, ends
        further = []
        for one in level:
            for mask, target in moves(one):
                if target not in seen:
                    seen[target] = True
                    further.append(target)
        level = further
    return levels, []


def least_way(levels, ends, moves):
    """The first text, as texts are, that leads from the first of these levels to one of the ends in the last."""
    good = {one: True for one in ends}
    rows = []
    for level in levels[-2::-1]:
        row = {}
        for one in level:
            leading = [(mask, target) for mask, target in moves(one) if target in good]
            if len(leading) > 0:
                row[one] = leading
        rows.append(row)
        good = row
    here = good
    signs = []
    for row in rows[::-1]:
        found = [(mask & -mask, mask, target) for one in here for mask, target in row[one]]
        least = min([bit for bit, mask, target in found])
        signs.append(TEXT_SIGNS[least.bit_length() - 1])
        here = {target: True for bit, mask, target in found if bit == least}
    return "".join(signs)
