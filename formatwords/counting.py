"""Runs counted by how many signs a text has, and each text numbered among all."""

from formatwords.deciding import clear
from formatwords.errors import NoRow, TooFar, Unclear
from formatwords.machines import far, runs
from formatwords.walks import come_to, live_places


def counted(machine, long):
    """How many runs all texts of so many signs have together."""
    rows = run_steps(machine)
    counts = {place: 1 for place in machine.begins if place in rows}
    matrix = {place: {target: len(signs) for signs, target in rows[place]} for place in rows}
    # Without a way round, nothing is left behind so many steps as there are places.
    first = min(long, len(rows))
    counts = moved_often(counts, matrix, first)
    if (long - first) * len(machine.steps) <= len(rows) ** 3 * long.bit_length():
        counts = moved_often(counts, matrix, long - first)
    elif len(counts) > 0:
        counts = moved_by_squares(counts, matrix, long - first)
    return sum([counts.get(place, 0) for place in machine.ends])


def run_steps(machine):
    """For each place that is on a run the steps from it to such places, as tuples (signs, place)."""
    live = live_places(machine)
    rows = {place: [] for place in come_to(machine.begins, machine.steps) if place in live}
    for place, signs, target in machine.steps:
        if place in rows and target in rows:
            rows[place].append((signs, target))
    return rows


def moved(counts, matrix):
    """What is counted at each place, one step further on."""
    further = {}
    for place in counts:
        row = matrix[place]
        for target in row:
            further[target] = further.get(target, 0) + counts[place] * row[target]
    return further


def moved_often(counts, matrix, times):
    """What is counted at each place, so many steps further on."""
    for time in range(times):
        counts = moved(counts, matrix)
        if len(counts) == 0:
            return counts
    return counts


def moved_by_squares(counts, matrix, times):
    """The same, for great numbers: each square of the matrix goes twice as far."""
    while times > 0:
        if times % 2 == 1:
            counts = moved(counts, matrix)
        times //= 2
        if times > 0:
            matrix = {place: moved(matrix[place], matrix) for place in matrix}
    return counts


class Ways:
    """How many runs of so many signs go on from each place; reckoned as far as it was asked."""

    def __init__(self, machine):
        self.begins = machine.begins
        self.rows = run_steps(machine)
        self.tails = [{place: 1 for place in machine.ends if place in self.rows}]

    def tail(self, long):
        """For each place, how many runs of so many signs go on from it to an end; those left out that have none."""
        while len(self.tails) <= long:
            last = self.tails[-1]
            row = {}
            for place in self.rows:
                many = sum([len(signs) * last.get(target, 0) for signs, target in self.rows[place]])
                if many > 0:
                    row[place] = many
            self.tails.append(row)
        return self.tails[long]

    def at_begins(self):
        """One run at each begin."""
        return {place: 1 for place in self.begins if place in self.rows}

    def many_from(self, counts, long):
        """How many runs of so many signs go on from where these are."""
        tail = self.tail(long)
        return sum([counts[place] * tail.get(place, 0) for place in counts])

    def by_signs(self, counts):
        """For each sign, rising, where these are behind it."""
        found = {}
        for place in counts:
            for signs, target in self.rows[place]:
                for sign in signs:
                    row = found.setdefault(sign, {})
                    row[target] = row.get(target, 0) + counts[place]
        return [(sign, found[sign]) for sign in sorted(found)]


def refuse_unclear(machine):
    """Unclear, with the text, of a Machine that is not clear."""
    word, text = clear(machine)
    if word == "alike":
        raise Unclear(text)


def ranked(machine, number):
    """The text of a number among all that have a run; Unclear, or TooFar where there are no more than the number."""
    refuse_unclear(machine)
    ways = Ways(machine)
    begins = ways.at_begins()
    left = number
    long = 0
    while left >= ways.many_from(begins, long):
        left -= ways.many_from(begins, long)
        long += 1
        # From here on no place has a way to an end: there are no longer texts.
        if len(ways.tail(long)) == 0:
            raise TooFar(number - left)
    return text_at(ways, long, left)


def text_at(ways, long, number):
    """The text of a number among those of so many signs."""
    counts = ways.at_begins()
    signs = []
    while len(signs) < long:
        for sign, further in ways.by_signs(counts):
            many = ways.many_from(further, long - len(signs) - 1)
            if number < many:
                break
            number -= many
        signs.append(sign)
        counts = further
    return "".join(signs)


def rank_of(machine, text):
    """The number of a text among all that have a run; Unclear, or NoRow where it has none."""
    refuse_unclear(machine)
    if runs(machine, text) == 0:
        at = far(machine, text)
        raise NoRow(0 if at is None else at)
    ways = Ways(machine)
    counts = ways.at_begins()
    number = sum([ways.many_from(counts, long) for long in range(len(text))])
    for at, sign in enumerate(text):
        for other, further in ways.by_signs(counts):
            if other == sign:
                break
            number += ways.many_from(further, len(text) - at - 1)
        counts = further
    return number
