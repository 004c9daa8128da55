"""Things read off a text: of each kind two unlike ones at most, and all where there are no more."""

from formatwords.backs import numerals_of
from formatwords.digits import number_of
from formatwords.errors import NoDigits
from formatwords.fractions import fraction
from formatwords.kindlooks import filled
from formatwords.kindnets import PieceNets, kind_net
from formatwords.kinds import Cases, Choice, Listing, Number, Only, Padded, Record, Sizes, Text
from formatwords.plain import power
from formatwords.recordforms import RecordForm
from formatwords.ways import ENOUGH, RowEnds, two_ways
from formatwords.written import fill_counts


def things_of(kind, text, nets, path):
    """The things whose row this text is: all of them where these are two at most, else two.

    In nets is kept what was made to read kinds within this one, by the path that leads to them: so it is made once.
    """
    if isinstance(kind, Listing):
        return lists_of(kind, text, nets, path)
    if isinstance(kind, Record):
        return dicts_of(kind, text, nets, path)
    if isinstance(kind, Padded):
        rows = unfilled(text, kind.width, kind.fill, kind.side)
        return [thing for row in rows for thing in things_of(kind.kind, row, nets, (*path, 0))][:ENOUGH]
    if isinstance(kind, Cases):
        return [
            (tag, thing) for at, (tag, one) in enumerate(kind.cases)
            for thing in things_of(one, text, nets, (*path, at))
        ][:ENOUGH]
    # Of what is left no thing is made of others: those that may be meant are few, and written once more.
    found = []
    for thing in possible_things(kind, text):
        if thing not in found and kind.has(thing) and kind.write(thing) == text:
            found.append(thing)
    return found[:ENOUGH]


def possible_things(kind, text):
    """Some things, and among them all whose row this text is."""
    if isinstance(kind, Number):
        return possible_numbers(kind, text)
    if isinstance(kind, Only):
        return [kind.thing]
    if isinstance(kind, Choice):
        return [thing for one in kind.kinds for thing in possible_things(one, text)]
    if isinstance(kind, Text):
        return [unquoted(kind, part) for part in unfilled(text, kind.width, kind.fill, kind.side)]
    if isinstance(kind, Sizes):
        return possible_sizes(kind, text)
    return []


def possible_numbers(kind, text):
    """All numbers that a Number's Word writes so."""
    if not text.startswith(kind.ahead) or not text.endswith(kind.behind):
        return []
    row = text[len(kind.ahead):len(text) - len(kind.behind)]
    numerals = numerals_of(kind.word, row)
    if kind.word.kind == "whole":
        return numerals
    return [fraction(numeral, power(kind.word.base, kind.word.places)) for numeral in numerals]


def unfilled(text, width, fill, side):
    """All rows that, filled to the width, are this text."""
    if len(text) != width:
        return [text] if len(text) > width else []
    rows = []
    for lack in range(width + 1):
        before, within, after = fill_counts(side, lack)
        row = text[before:width - after]
        if filled(row, width, fill, side) == text:
            rows.append(row)
    return rows


def unquoted(kind, row):
    """The text that a Text may have quoted so."""
    if kind.quote is None:
        return row
    return row[1:-1].replace(kind.quote * 2, kind.quote)


def possible_sizes(kind, text):
    """The number that a Sizes may have parted so, if any."""
    # All parts but the first have their count of figures: so they are taken off from behind.
    parts = []
    for size, mark in zip(kind.sizes[::-1], kind.marks[::-1]):
        count = len(str(size - 1))
        parts.append((size, text[max(0, len(text) - count):]))
        text = text[:max(0, len(text) - count - len(mark))]
    try:
        number = number_of(text)
        for size, part in parts[::-1]:
            number = number * size + number_of(part)
        return [number]
    except NoDigits:
        return []


def lists_of(kind, text, nets, path):
    """The lists of a Listing whose row this text is, two at most."""
    if path not in nets:
        nets[path] = kind_net(kind.kind)
    ends = RowEnds(nets[path], text)
    bound = kind.least if kind.most is None else kind.most

    # A state is where a thing begins, and how many there are ahead of it, as far as that matters.
    def edges(state):
        at, many = state
        if kind.most is not None and many == kind.most:
            return []
        found = []
        further = min(many + 1, bound) if kind.most is None else many + 1
        for end in ends.from_place(at):
            if end == len(text) and further >= kind.least:
                found.append(((at, end), None))
            if text.startswith(kind.between, end):
                found.append(((at, end), (end + len(kind.between), further)))
        return found

    def things(part):
        return things_of(kind.kind, text[part[0]:part[1]], nets, (*path, 0))

    none = [[]] if text == "" and kind.least == 0 else []
    return (none + two_ways((0, 0), edges, things))[:ENOUGH]


def dicts_of(kind, text, nets, path):
    """The dicts of a Record whose row this text is, two at most."""
    if path not in nets:
        nets[path] = PieceNets(RecordForm(kind))
    reader = RecordReader(text, nets, path)
    ways = two_ways(reader.begin, lambda state: reader.edges(state), lambda part: reader.things(part))
    dicts = [reader.dict_of(way) for way in ways]
    for name, widths in reader.form.spare:
        dicts = [{**one, name: width} for one in dicts for width in widths][:ENOUGH]
    return dicts


class RecordReader:
    """Reads a text piece by piece.

    A state has the number of the next piece, where it begins, and for each width that others hang on, by their names,
    what it is, -1 as long as it may be any.
    """

    def __init__(self, text, nets, path):
        self.form = nets[path].form
        self.text = text
        self.nets = nets
        self.path = path
        self.others = sorted(self.form.choices)
        self.begin = (0, 0, (-1,) * len(self.others))
        self.ends = {}

    def edges(self, state):
        """From a state the parts (piece, begin, end, width) that may come next, with the state behind each."""
        number, at, fixed = state
        if number == len(self.form.pieces):
            return [((number, at, at, -1), None)] if at == len(self.text) else []
        name = self.form.needs[number]
        if name is None:
            return [((number, at, end, -1), (number + 1, end, fixed)) for end in self.ends_of(number, at, -1)]
        found = []
        place = self.others.index(name)
        for width in self.form.choices[name] if fixed[place] < 0 else [fixed[place]]:
            further = (*fixed[:place], width, *fixed[place + 1:])
            found.extend([
                ((number, at, end, width), (number + 1, end, further)) for end in self.ends_of(number, at, width)
            ])
        return found

    def ends_of(self, number, at, width):
        """Where a piece may end that begins here."""
        if (number, width) not in self.ends:
            net = self.nets[self.path].net_at(number, {self.form.needs[number]: width})
            self.ends[(number, width)] = RowEnds(net, self.text)
        return self.ends[(number, width)].from_place(at)

    def things(self, part):
        """The things of a part, one that is nothing for what is no field; with its width where it has it told."""
        number, at, end, width = part
        if number == len(self.form.pieces) or isinstance(self.form.pieces[number], str):
            return [None]
        kind = self.form.pieces[number][1]
        if width < 0:
            return self.things_within(number, kind, self.text[at:end])
        if not self.form.is_wide(number):
            return [width]
        things = self.things_within(number, kind.with_width(width), self.text[at:end])
        return [(width, thing) for thing in things]

    def things_within(self, number, kind, text):
        """The things of a field's kind whose row a text is."""
        return things_of(kind, text, self.nets, (*self.path, number))

    def dict_of(self, way):
        """The dict of a list of such things."""
        told = {}
        for piece, thing in zip(self.form.pieces, way):
            if isinstance(piece, str):
                continue
            if len(piece) == 3:
                told[piece[2]], told[piece[0]] = thing
            else:
                told[piece[0]] = thing
        return told
