"""Machines: places, and steps between them by signs."""

from formatwords.errors import NoMachine
from formatwords.plain import is_rising, is_signs, is_whole, is_within
from formatwords.walks import least_way, levels_to, live_places, moves_by_place, steps_by_place


class Machine:
    """How many places there are, from which runs begin, the steps between them, and where runs end."""

    def __init__(self, many, begins, steps, ends):
        field = first_wrong(many, begins, steps, ends)
        if field is not None:
            raise NoMachine(field)
        self.many = many
        self.begins = begins
        self.steps = steps
        self.ends = ends

    def __eq__(self, other):
        return (
            isinstance(other, Machine) and self.many == other.many and self.begins == other.begins
            and self.steps == other.steps and self.ends == other.ends
        )

    def __len__(self):
        return len(range(self.many))


def first_wrong(many, begins, steps, ends):
    """The name of the first of these that is not so, or None."""
    if not is_whole(many) or many < 0:
        return "many"
    if not are_places(begins, many):
        return "begins"
    if not are_steps(steps, many):
        return "steps"
    if not are_places(ends, many):
        return "ends"
    return None


def are_places(thing, many):
    """Whether this is a rising tuple of places."""
    return isinstance(thing, tuple) and all([is_within(one, 0, many - 1) for one in thing]) and is_rising(thing)


def are_steps(thing, many):
    """Whether this is a rising tuple of steps, no two of them from one place to one place."""
    if not isinstance(thing, tuple) or not all([is_step(one, many) for one in thing]):
        return False
    return is_rising(thing) and len({(place, target) for place, signs, target in thing}) == len(thing)


def is_step(thing, many):
    """Whether this is a tuple (place, signs, place)."""
    return (
        isinstance(thing, tuple) and len(thing) == 3 and is_within(thing[0], 0, many - 1)
        and is_signs(thing[1]) and is_within(thing[2], 0, many - 1)
    )


def runs(machine, text):
    """How many runs a text has."""
    rows = steps_by_place(machine)
    counts = {place: 1 for place in machine.begins}
    for sign in text:
        further = {}
        for place in counts:
            for signs, target in rows[place]:
                if sign in signs:
                    further[target] = further.get(target, 0) + counts[place]
        counts = further
    return sum([counts.get(place, 0) for place in machine.ends])


def far(machine, text):
    """How many signs the longest beginning of a text has with which a text begins that has a run; None of no runs."""
    live = live_places(machine)
    rows = steps_by_place(machine)
    here = {place: True for place in machine.begins if place in live}
    if len(here) == 0:
        return None
    for at, sign in enumerate(text):
        here = {target: True for place in here for signs, target in rows[place] if sign in signs and target in live}
        if len(here) == 0:
            return at
    return len(text)


def least_text(machine):
    """The shortest text that has a run, of these the first as texts are; None where there is none."""
    rows = moves_by_place(machine)
    known = {place: True for place in machine.ends}

    def moves(place):
        return rows[place]

    def is_end(place):
        return place in known

    levels, ends = levels_to(machine.begins, moves, is_end)
    return least_way(levels, ends, moves) if len(ends) > 0 else None
