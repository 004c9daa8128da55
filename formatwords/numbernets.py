"""Nets of the rows of numbers by a Word."""

from formatwords.digitnets import digits_net
from formatwords.digits import DIGITS
from formatwords.fillnets import filled_net
from formatwords.nets import either_net, explored, text_net, then_net
from formatwords.settling import settled
from formatwords.spans import magnitudes
from formatwords.walks import mask_of
from formatwords.written import surroundings

# Where in a row of digits, groups and point one is: in the first group, in another one, or behind the point.
FIRST = 0
LATER = 1
BEHIND = 2


def body_nets(word, spans, modulus):
    """Tuples (below, Net) for the numerals of these spans below 0 and for all others, of their digits as written."""
    nets = []
    for below in (True, False):
        digits = digits_net(word.base, word.places + 1, magnitudes(spans, below, modulus), modulus)
        nets.append((below, pointed_net(word, digits)))
    return nets


def pointed_net(word, net):
    """The Net of digits with groups and point, as a Word has them."""
    form = Form(word)
    digits = mask_of(DIGITS)
    known = {place: True for place in net.ends}

    def moves(key):
        where, place = key
        found = []
        for mask, further in form.moves(where):
            if mask == digits:
                found.extend([(other, (further, target)) for other, target in net.rows[place]])
            else:
                found.append((mask, (further, place)))
        return found

    def is_end(key):
        return form.is_end(key[0]) and key[1] in known

    return explored([((FIRST, 0), place) for place in net.begins], moves, is_end)


class Form:
    """How digits, groups and point stand, by tuples (where, how many digits there were)."""

    def __init__(self, word):
        self.digits = mask_of(DIGITS)
        self.places = word.places
        self.size = None if word.group is None else word.group[1]
        self.parting = 0 if word.group is None else mask_of(word.group[0])

    def moves(self, key):
        """What may stand next: masks, with where one is behind it."""
        where, many = key
        found = []
        if where == FIRST and self.size is None:
            found.append((self.digits, (FIRST, 1)))
        elif many < (self.places if where == BEHIND else self.size):
            found.append((self.digits, (where, many + 1)))
        if self.is_whole(key):
            if self.size is not None:
                found.append((self.parting, (LATER, 0)))
            if self.places > 0:
                found.append((mask_of("."), (BEHIND, 0)))
        return found

    def is_whole(self, key):
        """Whether all ahead of the point may be there."""
        where, many = key
        return (where == FIRST and many > 0) or (where == LATER and many == self.size)

    def is_end(self, key):
        """Whether all may be there."""
        return self.is_whole(key) if self.places == 0 else key == (BEHIND, self.places)


def word_net(word, width, bodies):
    """The Net of the rows of numerals with these bodies, by a Word with this width in place of its own."""
    nets = []
    for below, body in bodies:
        ahead, behind = surroundings(word, below)
        if word.side == "inner":
            inner = filled_net(then_net([body, text_net(behind)]), max(0, width - len(ahead)), word.fill, "right")
            nets.append(then_net([text_net(ahead), inner]))
        else:
            whole = then_net([text_net(ahead), body, text_net(behind)])
            nets.append(filled_net(whole, width, word.fill, word.side))
    return settled(either_net(nets))
