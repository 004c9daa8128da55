"""Nets of kinds: each text has one run for each thing that it is the row of."""

from formatwords.digits import digits_of
from formatwords.fillnets import filled_net
from formatwords.fractions import common_measure
from formatwords.kinds import Cases, Choice, Listing, Number, Only, Padded, Record, Sizes, Text
from formatwords.nets import Net, again_net, either_net, text_net, then_net
from formatwords.numbernets import body_nets, word_net
from formatwords.numerals import numeral_of
from formatwords.recordforms import RecordForm
from formatwords.settling import settled
from formatwords.spans import all_numbers, parted_spans
from formatwords.walks import mask_of
from formatwords.words import Word

# Texts of more than four hundred signs are not promised: what needs so many may need any number more. Counted exactly
# are signs and things all the same, as long as there is room for that.
FAR_ENOUGH = 500
MOST_SIGNS = 10000
MOST_ROOM = 100000


def kind_net(kind):
    """A Net of which each text has as many runs as the kind has things with this row."""
    if isinstance(kind, Number):
        low, high, left, by = numeral_bounds(kind)
        return number_net(kind, [(low, high, 1 << left)], by)
    if isinstance(kind, Only):
        return text_net(kind.row)
    if isinstance(kind, Choice):
        return settled(either_net(choice_nets(kind.kinds)))
    if isinstance(kind, Text):
        return settled(filled_net(quoted_net(kind), kind.width, kind.fill, kind.side))
    if isinstance(kind, Sizes):
        return settled(sizes_net(kind))
    if isinstance(kind, Record):
        return record_net(kind)
    if isinstance(kind, Listing):
        return settled(listing_net(kind))
    if isinstance(kind, Cases):
        return settled(either_net([kind_net(one) for tag, one in kind.cases]))
    if isinstance(kind, Padded):
        return settled(filled_net(kind_net(kind.kind), kind.width, kind.fill, kind.side))
    # What is left is a Named, which has no things.
    return Net([], [], [])


def numeral_bounds(kind):
    """The numerals of a Number's bounds, None without end, and its rest, 0 by 1 for none."""
    low = None if kind.least is None else numeral_of(kind.word, kind.least)
    high = None if kind.most is None else numeral_of(kind.word, kind.most)
    left, by = (0, 1) if kind.rest is None else kind.rest
    return low, high, left, by


def number_net(kind, spans, modulus):
    """The Net of those numbers of a Number whose numerals are in these spans."""
    return around(kind, word_net(kind.word, kind.word.width, body_nets(kind.word, spans, modulus)))


def around(kind, net):
    """The Net with the texts ahead and behind of a Number."""
    return then_net([text_net(kind.ahead), net, text_net(kind.behind)])


def choice_nets(kinds):
    """For each of these a Net of the numbers that no earlier one has."""
    words = [kind.word for kind in kinds if isinstance(kind, Number)]
    modulus = common_multiple([numeral_bounds(kind)[3] for kind in kinds if isinstance(kind, Number)])
    free = all_numbers(modulus)
    nets = []
    for at, kind in enumerate(kinds):
        if isinstance(kind, Number):
            low, high, left, by = numeral_bounds(kind)
            mask = sum([1 << rest for rest in range(left, modulus, by)])
            taken, free = parted_spans(free, low, high, mask)
            nets.append(number_net(kind, taken, modulus))
            continue
        if not any([other.has(kind.thing) for other in kinds[:at]]):
            nets.append(text_net(kind.row))
        if len(words) > 0:
            numeral = numeral_of(words[0], kind.thing)
            free = parted_spans(free, numeral, numeral, -1)[1]
    return nets


def common_multiple(numbers):
    """The least number that all these divide."""
    multiple = 1
    for number in numbers:
        multiple = multiple // common_measure(multiple, number) * number
    return multiple


def quoted_net(kind):
    """The Net of a Text's rows before they are filled."""
    least, most = counted_bounds(kind, MOST_SIGNS)
    quote = 0 if kind.quote is None else mask_of(kind.quote)
    plain = mask_of(kind.signs) & ~quote
    doubled = mask_of(kind.signs) & quote
    many = (least if most is None else most) + 1
    # Places from many on are those behind the first of two quotes.
    rows = [[] for place in range(2 * many)]
    for count in range(many):
        further = count + 1 if most is not None else min(count + 1, least)
        if further < many:
            rows[count] = [(mask, target) for mask, target in ((plain, further), (doubled, many + count)) if mask != 0]
            rows[many + count] = [(quote, further)] if doubled != 0 else []
    text = Net([0], rows, list(range(least, many)))
    if kind.quote is None:
        return text
    return then_net([text_net(kind.quote), text, text_net(kind.quote)])


def counted_bounds(kind, bound):
    """The least and most of a kind where they are no more than a bound; beyond it others that do as well."""
    least = FAR_ENOUGH if kind.least > bound else kind.least
    return least, None if kind.most is None or kind.most > bound else kind.most


def sizes_net(kind):
    """The Net of a Sizes."""
    nets = [kind_net(Number(Word(), least=0))]
    for size, mark in zip(kind.sizes, kind.marks):
        word = Word(width=len(digits_of(size - 1)), fill="0")
        nets.extend([text_net(mark), kind_net(Number(word, least=0, most=size - 1))])
    return then_net(nets)


def listing_net(kind):
    """The Net of a Listing."""
    net = kind_net(kind.kind)
    least, most = counted_bounds(kind, max(FAR_ENOUGH, MOST_ROOM // (len(net.rows) + 1)))
    return again_net(net, kind.between, least, most)


def record_net(kind):
    """The Net of a Record."""
    pieces = PieceNets(RecordForm(kind))
    net = pieces.joined_from(0, len(kind.pieces), {})
    for name, widths in pieces.form.spare:
        net = times(net, len(widths))
    return settled(net)


class PieceNets:
    """The Nets of a Record's pieces, each made once."""

    def __init__(self, form):
        self.form = form
        self.known = {}
        self.bodies = {}

    def joined_from(self, first, last, fixed):
        """The Net of all pieces from first to ahead of last, where some widths are fixed."""
        nets = []
        at = first
        while at < last:
            name = self.form.needs[at]
            if name is None or name in fixed:
                nets.append(self.net_at(at, fixed))
                at += 1
                continue
            end = self.form.reach(at, fixed)
            widths = self.form.choices[name]
            nets.append(settled(either_net([self.joined_from(at, end, {**fixed, name: width}) for width in widths])))
            at = end
        return then_net(nets)

    def net_at(self, at, fixed):
        """The Net of a piece."""
        piece = self.form.pieces[at]
        if isinstance(piece, str):
            return text_net(piece)
        width = fixed.get(self.form.needs[at], -1)
        if (at, width) not in self.known:
            self.known[(at, width)] = self.made_net(at, width)
        return self.known[(at, width)]

    def made_net(self, at, width):
        """The Net of a field; the width is -1 where it hangs on none."""
        kind = self.form.pieces[at][1]
        if width < 0:
            return kind_net(kind)
        if not self.form.is_wide(at):
            return text_net(self.form.row_of_width(at, width))
        if at not in self.bodies:
            low, high, left, by = numeral_bounds(kind)
            self.bodies[at] = body_nets(kind.word, [(low, high, 1 << left)], by)
        return around(kind, word_net(kind.word, width, self.bodies[at]))


def times(net, many):
    """The Net with so many runs for each one."""
    copied = len(net.begins) * many
    known = {place: True for place in net.ends}
    begins = [place for time in range(many) for place in net.begins]
    rows = list(net.rows) + [list(net.rows[place]) for place in begins]
    ends = list(net.ends) + [len(net.rows) + at for at, place in enumerate(begins) if place in known]
    return Net(list(range(len(net.rows), len(net.rows) + copied)), rows, ends)
