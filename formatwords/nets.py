"""Nets: Machines while they are put together, their steps by masks, in any order."""

from formatwords.machines import Machine
from formatwords.walks import common_moves, mask_of, moves_by_place, signs_of


class Net:
    """Places from 0 on: the begins, for each place its moves (mask, place), one to each place at most, and the ends."""

    def __init__(self, begins, rows, ends):
        self.begins = begins
        self.rows = rows
        self.ends = ends


def as_net(machine):
    """The Net of a Machine."""
    return Net(list(machine.begins), moves_by_place(machine), list(machine.ends))


def as_machine(net):
    """The Machine of a Net."""
    known = {}
    steps = []
    for place, row in enumerate(net.rows):
        for mask, target in row:
            if mask not in known:
                known[mask] = signs_of(mask)
            steps.append((place, known[mask], target))
    return Machine(len(net.rows), tuple(sorted(net.begins)), tuple(sorted(steps)), tuple(sorted(net.ends)))


def explored(begins, moves, is_end):
    """The Net of all that can be come to from these keys; moves to one key have no sign in common."""
    numbers = {key: at for at, key in enumerate(begins)}
    order = list(begins)
    rows = []
    while len(rows) < len(order):
        masks = {}
        for mask, key in moves(order[len(rows)]):
            if key not in numbers:
                numbers[key] = len(order)
                order.append(key)
            masks[numbers[key]] = masks.get(numbers[key], 0) | mask
        rows.append([(masks[target], target) for target in masks])
    ends = [place for place, key in enumerate(order) if is_end(key)]
    return trimmed(Net(list(range(len(begins))), rows, ends))


def trimmed(net):
    """The Net without the places that are on no run; the others are numbered anew."""
    reached = reached_from(net.begins, net.rows)
    live = reached_from(net.ends, flipped(net).rows)
    numbers = {}
    for place in range(len(net.rows)):
        if place in reached and place in live:
            numbers[place] = len(numbers)
    rows = [[(mask, numbers[target]) for mask, target in net.rows[place] if target in numbers] for place in numbers]
    return Net(numbered(net.begins, numbers), rows, numbered(net.ends, numbers))


def reached_from(begins, rows):
    """All places that can be come to by moves from these, themselves too."""
    seen = {place: True for place in begins}
    ahead = list(seen)
    while len(ahead) > 0:
        for mask, target in rows[ahead.pop()]:
            if target not in seen:
                seen[target] = True
                ahead.append(target)
    return seen


def flipped(net):
    """The Net of the same runs, each from its end to its begin."""
    rows = [[] for row in net.rows]
    for place, row in enumerate(net.rows):
        for mask, target in row:
            rows[target].append((mask, place))
    return Net(net.ends, rows, net.begins)


def numbered(places, numbers):
    """The numbers of those places that have one, rising."""
    return sorted([numbers[place] for place in places if place in numbers])


def text_net(text):
    """A Net with one run of this text, and none of others."""
    rows = [[(mask_of(sign), at + 1)] for at, sign in enumerate(text)]
    return Net([0], rows + [[]], [len(text)])


def either_net(nets):
    """A Net of which each text has as many runs as it has of all these together."""
    begins, rows, ends = [], [], []
    for net in nets:
        by = len(rows)
        begins.extend([place + by for place in net.begins])
        ends.extend([place + by for place in net.ends])
        rows.extend([moved_row(row, by) for row in net.rows])
    return Net(begins, rows, ends)


def moved_row(row, by):
    """The moves, to places that are that many further on."""
    return [(mask, target + by) for mask, target in row]


def then_net(nets):
    """A Net of which a text has, for each way to part it among these in order, the product of their runs."""
    if len(nets) == 0:
        return text_net("")
    return strung(nets, len(nets))


def strung(nets, least):
    """A Net of the first ones of these in order, at least so many; none but the first has a run of no signs then."""
    string = String(nets[0])
    ends = []
    for many, net in enumerate(nets):
        if many > 0:
            string.put_behind(net)
        if many + 1 >= least:
            ends.extend(string.ends)
    return trimmed(Net(string.begins, string.rows, ends))


class String:
    """Nets put one behind the other; ends are those of the last one."""

    # Where a run goes over, the place at the end of the one has the moves from the begin of the other, too. So runs
    # that do not part stay one. Begins whose moves can't stand beside each other at one place need twins of it.
    def __init__(self, net):
        self.begins = list(net.begins)
        self.rows = [list(row) for row in net.rows]
        self.ends = list(net.ends)

    def put_behind(self, net):
        """One Net more."""
        by = len(self.rows)
        ends = [place + by for place in net.ends]
        joints = list(self.ends)
        groups = begin_groups(net, [])
        self.rows.extend([moved_row(row, by) for row in net.rows])
        for at, (row, is_last) in enumerate(groups):
            places = self.twins_of(self.ends) if at > 0 else joints
            for place in places:
                self.rows[place].extend(moved_row(row, by))
            if is_last:
                ends.extend(places)
        self.ends = ends

    def twins_of(self, places):
        """For each of these a new place that runs come to as they come to it, without moves."""
        twins = {}
        for place in places:
            twins[place] = len(self.rows)
            self.rows.append([])
        self.begins = self.begins + [twins[place] for place in self.begins if place in twins]
        self.rows = with_twins(self.rows, twins)
        return [twins[place] for place in places]


def with_twins(rows, twins):
    """The rows with moves to a place's twin beside those to the place."""
    return [row + [(mask, twins[target]) for mask, target in row if target in twins] for row in rows]


def begin_groups(net, rows):
    """The begins in as few groups as it goes: of each the moves, and whether one is an end.

    In a group no two moves to one place have a sign in common, in the first one not with these rows either, and one
    begin at most is an end.
    """
    known = {place: True for place in net.ends}
    groups = [([], False)]
    for begin in net.begins:
        row, is_last = net.rows[begin], begin in known
        at = 0
        while at < len(groups) and not is_fit(groups[at], row, is_last, rows if at == 0 else []):
            at += 1
        if at == len(groups):
            groups.append(([], False))
        groups[at] = (merged_row(groups[at][0], row), groups[at][1] or is_last)
    return groups


def is_fit(group, row, is_last, rows):
    """Whether a begin with this row, perhaps an end, can be put to a group."""
    if group[1] and is_last:
        return False
    masks = {target: mask for mask, target in row}
    return all([
        mask & masks.get(target, 0) == 0 for other in [group[0]] + rows for mask, target in other
    ])


def merged_row(row, other):
    """The moves of both, one to each place."""
    masks = {}
    for mask, target in row + other:
        masks[target] = masks.get(target, 0) | mask
    return [(masks[target], target) for target in masks]


def once_or_more(net):
    """A Net of which a text has, for each way to part it, the product of the parts' runs; "" has none."""
    groups = begin_groups(net, [net.rows[place] for place in net.ends])
    string = String(net)
    for place in net.ends:
        string.rows[place] = merged_row(string.rows[place], groups[0][0])
    rows = [row for row, is_last in groups[1:]]
    # The twins are made first: a run may come to one from another.
    many = len(string.rows)
    for row in rows:
        string.rows.extend([list(row) for place in net.ends])
    for at in range(len(rows)):
        twins = {place: many + at * len(net.ends) + number for number, place in enumerate(net.ends)}
        string.rows = with_twins(string.rows, twins)
    return trimmed(Net(string.begins, string.rows, string.ends))


def again_net(net, between, least, most):
    """A Net of least to most of this one, with a text between each two; most None is without end."""
    if most == 0:
        return text_net("")
    later = then_net([text_net(between), net])
    first = max(least, 1)
    if most is None:
        some = then_net([net] + [later] * (first - 1) + [perhaps(once_or_more(later))])
    elif has_empty_run(later):
        some = then_net([net] + [later] * (first - 1) + [up_to(later, most - first)])
    else:
        some = strung([net] + [later] * (most - 1), first)
    return perhaps(some) if least == 0 else some


def has_empty_run(net):
    """Whether the text without signs has a run."""
    known = {place: True for place in net.ends}
    return any([place in known for place in net.begins])


def perhaps(net):
    """A Net with one run more of the text without signs."""
    return either_net([text_net(""), net])


def up_to(net, most):
    """A Net of none of this one, one, or more, up to so many."""
    some = text_net("")
    for time in range(most):
        some = perhaps(then_net([net, some]))
    return some


def both_net(one, other):
    """A Net of which each text has the product of its runs of these two."""
    known = {place: True for place in one.ends}
    also_known = {place: True for place in other.ends}

    def moves(pair):
        found = common_moves(one.rows[pair[0]], other.rows[pair[1]])
        return [(mask, (first, second)) for mask, first, second in found]

    def is_end(pair):
        return pair[0] in known and pair[1] in also_known

    return explored([(first, second) for first in one.begins for second in other.begins], moves, is_end)
