"""Ways to part a text in rows."""

from formatwords.plain import TEXT_SIGNS
from formatwords.walks import mask_of

ENOUGH = 2


class RowEnds:
    """Where in a text rows end, by where they begin; looked for as far as it is asked."""

    def __init__(self, net, text):
        self.net = net
        self.masks = [mask_of(sign) if sign in TEXT_SIGNS else 0 for sign in text]
        self.last = {place: True for place in net.ends}
        self.known = {}

    def from_place(self, at):
        """All numbers of signs behind which a row ends that begins behind so many."""
        if at not in self.known:
            self.known[at] = self.looked_from(at)
        return list(self.known[at])

    def looked_from(self, at):
        """The same, looked for."""
        found = []
        here = {place: True for place in self.net.begins}
        while len(here) > 0:
            if any([place in self.last for place in here]):
                found.append(at)
            if at == len(self.masks):
                return found
            sign = self.masks[at]
            here = {target: True for place in here for mask, target in self.net.rows[place] if mask & sign != 0}
            at += 1
        return found


def two_ways(begin, edges, things):
    """Lists of things along ways from a state to the end: all of them where these are two at most, else two.

    The edges from a state are tuples (part, state), each such state behind the one; None is the end. A part has things.
    """
    graph = {}
    ahead = [begin]
    while len(ahead) > 0:
        state = ahead.pop()
        if state not in graph:
            graph[state] = edges(state)
            ahead.extend([target for part, target in graph[state] if target is not None])
    tails = {}
    for state in sorted(graph, reverse=True):
        tails[state] = some_tails(graph[state], tails, things)
    return tails[begin]


def some_tails(row, tails, things):
    """Two lists at most, each of a thing of one of these edges and of what goes on behind it."""
    found = []
    for part, target in row:
        rests = [[]] if target is None else tails[target]
        if len(rests) > 0:
            found.extend([[thing] + rest for thing in things(part) for rest in rests])
        if len(found) >= ENOUGH:
            return found[:ENOUGH]
    return found
