"""Machines made of texts and of other Machines, such that each text has just as many runs as told."""

from formatwords.errors import Endless
from formatwords.machines import Machine
from formatwords.walks import come_to, common_moves, moves_by_place, signs_of, steps_by_place, turned_steps


def text_machine(text):
    """A Machine with one run of this text, and none of others."""
    steps = [(at, sign, at + 1) for at, sign in enumerate(text)]
    return Machine(len(text) + 1, (0,), tuple(steps), (len(text),))


def either(machines):
    """A Machine of which each text has as many runs as it has of all these together."""
    begins, steps, ends = [], [], []
    many = 0
    for machine in machines:
        begins.extend(shifted(machine.begins, many))
        steps.extend(shifted_steps(machine.steps, many))
        ends.extend(shifted(machine.ends, many))
        many += machine.many
    return Machine(many, tuple(begins), tuple(steps), tuple(ends))


def shifted(places, by):
    """The places, each that many further on."""
    return [place + by for place in places]


def shifted_steps(steps, by):
    """The steps between places that are that many further on."""
    return [(place + by, signs, target + by) for place, signs, target in steps]


def trimmed(begins, steps, ends):
    """The Machine of these in any order, without the places that are on no run; the others are numbered anew."""
    reached = come_to(begins, steps)
    live = come_to(ends, turned_steps(steps))
    numbers = {}
    for place in sorted([one for one in reached if one in live]):
        numbers[place] = len(numbers)
    kept = [
        (numbers[place], signs, numbers[target]) for place, signs, target in steps
        if place in numbers and target in numbers
    ]
    return Machine(len(numbers), places_of(begins, numbers), tuple(sorted(kept)), places_of(ends, numbers))


def places_of(places, numbers):
    """The numbers of those places that have one, rising."""
    return tuple(sorted([numbers[place] for place in places if place in numbers]))


def then(machines):
    """A Machine of which a text has, for each way to part it among these in order, the product of their runs."""
    if len(machines) == 0:
        return text_machine("")
    if len(machines) == 1:
        return machines[0]
    # By halves: one by one, the first ones would be gone through again for each that is put behind them.
    half = len(machines) // 2
    return then_one(then(machines[:half]), then(machines[half:]))


def then_one(one, other):
    """A Machine of the one, then the other."""
    # Where a run goes over it is at an end of the one and at a begin of the other at once: such two are one place.
    # So each two runs are one; were all ends one place, runs that part at an end alone would be lost.
    seam = Seam(one.ends, other.begins, one.many + other.many)
    later = shifted_steps(other.steps, one.many)
    steps = list(one.steps) + later + seam.steps_in(one.steps)
    steps.extend([(place, signs, target + one.many) for place, signs, target in seam.steps_out(other)])
    begins = list(one.begins) + [place for end in one.begins for place in seam.at_end(end)]
    ends = shifted(other.ends, one.many) + [place for begin in other.ends for place in seam.at_begin(begin)]
    return trimmed(begins, steps, ends)


class Seam:
    """Places where a run is at an end of one Machine and at a begin of another, numbered from first on."""

    def __init__(self, ends, begins, first):
        self.by_end = {}
        self.by_begin = {begin: [] for begin in begins}
        number = first
        for end in ends:
            self.by_end[end] = list(range(number, number + len(begins)))
            number += len(begins)
            for begin, place in zip(begins, self.by_end[end]):
                self.by_begin[begin].append(place)

    def at_end(self, end):
        """All of these that are at this place of the one, none where it is no end."""
        return self.by_end.get(end, [])

    def at_begin(self, begin):
        """All of these that are at this place of the other, none where it is no begin."""
        return self.by_begin.get(begin, [])

    def steps_in(self, steps):
        """The steps that lead to an end of the one, to these places."""
        return [(place, signs, joint) for place, signs, end in steps for joint in self.at_end(end)]

    def steps_out(self, machine):
        """The steps that lead from a begin of the other, from these places."""
        rows = steps_by_place(machine)
        return [
            (joint, signs, target) for begin in self.by_begin for joint in self.by_begin[begin]
            for signs, target in rows[begin]
        ]


def once_or_more(machine):
    """A Machine of which a text has, for each way to part it, the product of the parts' runs; "" has no run."""
    seam = Seam(machine.ends, machine.begins, machine.many)
    steps = list(machine.steps) + seam.steps_out(machine)
    return trimmed(machine.begins, steps + seam.steps_in(steps), machine.ends)


def again(machine, between, *, least=0, most=None):
    """A Machine of least to most of this one, with a text between each two; Endless where runs would not end."""
    if between == "" and most is None and has_empty_run(machine):
        raise Endless()
    if most == 0:
        return text_machine("")
    later = then([text_machine(between), machine])
    first = max(least, 1)
    rest = any_many(later) if most is None else up_to(later, most - first)
    some = then([machine] + [later] * (first - 1) + [rest])
    return perhaps(some) if least == 0 else some


def has_empty_run(machine):
    """Whether the text without signs has a run."""
    return any([place in machine.ends for place in machine.begins])


def perhaps(machine):
    """A Machine with one run more of the text without signs."""
    return either([text_machine(""), machine])


def any_many(machine):
    """A Machine of none of this one, one, or more, without end."""
    return perhaps(once_or_more(machine))


def up_to(machine, most):
    """A Machine of none of this one, one, or more, up to so many."""
    if most == 0:
        return text_machine("")
    if most % 2 == 0:
        return perhaps(then_one(machine, up_to(machine, most - 1)))
    # Up to half of them, then none or as many as make up the rest: each count has one way.
    half = most // 2
    return then_one(up_to(machine, half), perhaps(then([machine] * (half + 1))))


def both(one, other):
    """A Machine of which each text has the product of its runs of these two."""
    rows, others = moves_by_place(one), moves_by_place(other)
    numbers = {}
    for first in one.begins:
        for second in other.begins:
            numbers[(first, second)] = len(numbers)
    begins = list(range(len(numbers)))
    ahead = list(numbers)
    steps = []
    while len(ahead) > 0:
        pair = ahead.pop()
        for mask, first, second in common_moves(rows[pair[0]], others[pair[1]]):
            if (first, second) not in numbers:
                numbers[(first, second)] = len(numbers)
                ahead.append((first, second))
            steps.append((numbers[pair], signs_of(mask), numbers[(first, second)]))
    ends = [numbers[(first, second)] for first in one.ends for second in other.ends if (first, second) in numbers]
    return trimmed(begins, steps, ends)
