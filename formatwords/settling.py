"""Nets made smaller, such that each text keeps its runs."""

from formatwords.nets import Net, flipped, trimmed

# How many sets of places are looked at to make each text's way the only one, before that is given up.
SETS_FOR_EACH = 3
SETS_BESIDE = 200


def settled(net):
    """A Net of the same runs, with few places, and one way for each text where that can be had."""
    net = trimmed(net)
    sure = determined(net)
    if sure is not None:
        return merged(sure)
    while True:
        smaller = flipped(merged(flipped(merged(net))))
        if len(smaller.rows) == len(net.rows):
            return smaller
        net = smaller


def determined(net):
    """A Net with one way for each text, if it has one run at most; None of others, and where it takes too much."""
    known = {place: True for place in net.ends}
    first = tuple(sorted(net.begins))
    numbers = {first: 0}
    order = [first]
    rows = []
    ends = []
    while len(rows) < len(order):
        places = order[len(rows)]
        last = [place for place in places if place in known]
        parts = parts_of([move for place in places for move in net.rows[place]])
        # On a run are all places: so two ends, or one place come to twice, make two runs of some text.
        if len(last) > 1 or parts is None or len(order) > SETS_FOR_EACH * len(net.rows) + SETS_BESIDE:
            return None
        if len(last) == 1:
            ends.append(len(rows))
        row = []
        for targets in parts:
            if targets not in numbers:
                numbers[targets] = len(order)
                order.append(targets)
            row.append((parts[targets], numbers[targets]))
        rows.append(row)
    return trimmed(Net([0], rows, ends))


def parts_of(moves):
    """For each tuple of places that signs lead to these signs, a mask; None where some lead to one place twice."""
    union = 0
    for mask, target in moves:
        union |= mask
    if union == sum([mask for mask, target in moves]):
        parts = [(mask, (target,)) for mask, target in moves]
    else:
        parts = split_moves(moves)
    masks = {}
    for mask, targets in parts:
        if len({target for target in targets}) < len(targets):
            return None
        masks[targets] = masks.get(targets, 0) | mask
    return masks


def split_moves(moves):
    """The moves as tuples (mask, rising places), no two of them with a sign in common."""
    parts = []
    for mask, target in moves:
        further = []
        for other, targets in parts:
            if other & mask == 0:
                further.append((other, targets))
                continue
            if other & ~mask != 0:
                further.append((other & ~mask, targets))
            further.append((other & mask, targets + (target,)))
            mask &= ~other
        if mask != 0:
            further.append((mask, (target,)))
        parts = further
    return [(mask, tuple(sorted(targets))) for mask, targets in parts]


def merged(net):
    """The Net with one place, or as many as there are moves by one sign, for all from which runs go on alike."""
    classes = future_classes(net)
    rows = {}
    for place, row in enumerate(net.rows):
        if classes[place] not in rows:
            rows[classes[place]] = layers_of(row, classes)
    begins = layers_of([(1, place) for place in net.begins], classes)
    first = numbered_copies(list(rows.values()) + [begins], len(rows))
    moved = []
    for number in range(len(rows)):
        row = [(mask, first[target] + level) for target, level, mask in rows[number]]
        moved.extend([list(row) for time in range(first[number + 1] - first[number])])
    ends = sorted({classes[place] for place in net.ends})
    return trimmed(Net(
        [first[target] + level for target, level, mask in begins], moved,
        [place for number in ends for place in range(first[number], first[number + 1])],
    ))


def numbered_copies(rows, many):
    """For each of so many classes the number of its first place, where each has as many as it needs."""
    copies = [1] * many
    for row in rows:
        for target, level, mask in row:
            copies[target] = max(copies[target], level + 1)
    first = [0]
    for count in copies:
        first.append(first[-1] + count)
    return first


def layers_of(row, classes):
    """The moves by classes, rising, as tuples (class, level, mask): the signs that have more than level such moves."""
    layers = {}
    for mask, target in row:
        layers[classes[target]] = put_layer(layers.get(classes[target], ()), mask)
    return tuple([(target, level, mask) for target in sorted(layers) for level, mask in enumerate(layers[target])])


def future_classes(net):
    """For each place the number of its class: from places of one class runs go on alike."""
    known = {place: True for place in net.ends}
    nearest, farthest = nearest_ends(net), farthest_ends(net)
    classes = Classes(numbered_marks([(place in known, nearest[place], farthest[place])
                                      for place in range(len(net.rows))]))
    backward = flipped(net).rows
    while len(classes.waiting) > 0:
        number = classes.waiting.pop()
        marks = {}
        for place in classes.rows[number]:
            for mask, other in backward[place]:
                marks[other] = put_layer(marks.get(other, ()), mask)
        classes.split_by(marks)
    return numbered_marks(classes.numbers)


def put_layer(layers, mask):
    """Masks of the signs that have more than no, one, two and so on moves, with one move more."""
    further = []
    for layer in layers:
        further.append(layer | mask)
        mask &= layer
    return (*further, mask) if mask != 0 else tuple(further)


class Classes:
    """Places in classes, which are split until the moves to no waiting class tell two of one class apart."""

    def __init__(self, numbers):
        self.numbers = numbers
        self.rows = [{} for number in range(max(numbers, default=-1) + 1)]
        for place, number in enumerate(numbers):
            self.rows[number][place] = True
        self.waiting = list(range(len(self.rows)))

    def split_by(self, marks):
        """Parts places of one class that have unlike marks, or of which some have none."""
        touched = {}
        for place in marks:
            parts = touched.setdefault(self.numbers[place], {})
            parts.setdefault(marks[place], []).append(place)
        for number in touched:
            parts = [touched[number][mark] for mark in touched[number]]
            if sum([len(part) for part in parts]) < len(self.rows[number]):
                parts.append(self.untouched(number, marks))
            if len(parts) > 1:
                self.part(number, parts)

    def untouched(self, number, marks):
        """The places of a class that have no marks."""
        return [place for place in self.rows[number] if place not in marks]

    def part(self, number, parts):
        """Puts all these parts of a class but the longest in classes of their own, which wait."""
        # What is known of moves to the whole class and to all its parts but one is known of this one, too.
        longest = max([len(part) for part in parts])
        kept = [at for at, part in enumerate(parts) if len(part) == longest][0]
        for at, part in enumerate(parts):
            if at == kept:
                continue
            for place in part:
                del self.rows[number][place]
                self.numbers[place] = len(self.rows)
            self.waiting.append(len(self.rows))
            self.rows.append({place: True for place in part})


def numbered_marks(marks):
    """For each of these its number among all unlike ones, by where it first stands."""
    numbers = {}
    for mark in marks:
        if mark not in numbers:
            numbers[mark] = len(numbers)
    return [numbers[mark] for mark in marks]


def nearest_ends(net):
    """For each place how many signs the shortest text has that leads to an end."""
    backward = flipped(net).rows
    found = {place: 0 for place in net.ends}
    level = list(found)
    while len(level) > 0:
        further = []
        for place in level:
            for mask, target in backward[place]:
                if target not in found:
                    found[target] = found[place] + 1
                    further.append(target)
        level = further
    return [found.get(place, -1) for place in range(len(net.rows))]


def farthest_ends(net):
    """For each place how many signs the longest text has that leads to an end, -1 where there is no longest."""
    backward = flipped(net).rows
    left = [len(row) for row in net.rows]
    ahead = [place for place, many in enumerate(left) if many == 0]
    found = {}
    while len(ahead) > 0:
        place = ahead.pop()
        found[place] = max([found[target] + 1 for mask, target in net.rows[place]], default=0)
        for mask, target in backward[place]:
            left[target] -= 1
            if left[target] == 0:
                ahead.append(target)
    return [found.get(place, -1) for place in range(len(net.rows))]
