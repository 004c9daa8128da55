"""Kinds: each has things, and tells the row of each."""

from formatwords.digits import digits_of
from formatwords.errors import NoThing
from formatwords.kindlooks import are_marks, are_sizes, filled, in_order, is_book_name, is_bound, is_count, is_fraction
from formatwords.kindlooks import is_length, is_most, is_name, is_number_of, is_number_word, is_rest, is_sequence
from formatwords.kindlooks import is_some_text, require, require_filling
from formatwords.numerals import numeral_of
from formatwords.plain import is_sign, is_signs, is_text, is_whole
from formatwords.words import BLANK, WIDEST, widened
from formatwords.written import row_of


class Kind:
    """What all kinds are; none is of this class alone."""

    def has(self, thing):
        """Whether this, whatever it is, is one of its things."""
        return False

    def write(self, thing):
        """The row of a thing; NoThing of all else."""
        raise NoThing(thing)


class Number(Kind):
    """Numbers of a Word from least to most, with a text ahead and one behind."""

    def __init__(self, word, *, least=None, most=None, rest=None, ahead="", behind=""):
        require(is_number_word(word), "word")
        require(is_bound(word, least), "least")
        require(is_bound(word, most) and in_order(least, most), "most")
        require(rest is None or is_rest(rest), "rest")
        require(is_text(ahead), "ahead")
        require(is_text(behind), "behind")
        self.word = word
        self.least = least
        self.most = most
        self.rest = rest
        self.ahead = ahead
        self.behind = behind

    def has(self, thing):
        """Whether this, whatever it is, is one of its numbers."""
        if not is_number_of(self.word, thing) or not in_order(self.least, thing) or not in_order(thing, self.most):
            return False
        return self.rest is None or numeral_of(self.word, thing) % self.rest[1] == self.rest[0]

    def write(self, thing):
        """The row of a number; NoThing of all else."""
        if not self.has(thing):
            raise NoThing(thing)
        return self.ahead + row_of(self.word, numeral_of(self.word, thing)) + self.behind

    def with_width(self, width):
        """The same with another width of its Word."""
        return Number(widened(self.word, width), least=self.least, most=self.most, rest=self.rest,
                      ahead=self.ahead, behind=self.behind)

    def __eq__(self, other):
        return (
            isinstance(other, Number) and self.word == other.word and self.least == other.least
            and self.most == other.most and self.rest == other.rest and self.ahead == other.ahead
            and self.behind == other.behind
        )


class Only(Kind):
    """One number and its row."""

    def __init__(self, thing, row):
        require(is_whole(thing) or is_fraction(thing), "thing")
        require(is_some_text(row), "row")
        self.thing = thing
        self.row = row

    def has(self, thing):
        """Whether this, whatever it is, is its one number."""
        return (is_whole(thing) or is_fraction(thing)) and thing == self.thing

    def write(self, thing):
        """The row of its one number; NoThing of all else."""
        if not self.has(thing):
            raise NoThing(thing)
        return self.row

    def __eq__(self, other):
        return isinstance(other, Only) and self.thing == other.thing and self.row == other.row


class Choice(Kind):
    """Numbers and Onlys, of which the first that has a thing writes it."""

    def __init__(self, kinds):
        require(is_sequence(kinds) and are_choices(kinds), "kinds")
        self.kinds = tuple(kinds)

    def has(self, thing):
        """Whether this, whatever it is, is a number of one of them."""
        return any([kind.has(thing) for kind in self.kinds])

    def write(self, thing):
        """The row of a number by the first that has it; NoThing of all else."""
        for kind in self.kinds:
            if kind.has(thing):
                return kind.write(thing)
        raise NoThing(thing)

    def __eq__(self, other):
        return isinstance(other, Choice) and self.kinds == other.kinds


def are_choices(kinds):
    """Whether these are one or more Numbers and Onlys of numbers that go together."""
    words = [kind.word for kind in kinds if isinstance(kind, Number)]
    things = [kind.thing for kind in kinds if isinstance(kind, Only)]
    if len(kinds) == 0 or len(words) + len(things) < len(kinds):
        return False
    if len(words) == 0:
        return all([is_whole(thing) == is_whole(things[0]) for thing in things])
    return (
        all([go_together(words[0], word) for word in words])
        and all([is_number_of(words[0], thing) for thing in things])
    )


def go_together(one, other):
    """Whether two Words have the same numbers, whole ones, or fractions over the same power of one base."""
    if one.kind == "whole" or other.kind == "whole":
        return one.kind == other.kind
    return one.base == other.base and one.places == other.places


class Text(Kind):
    """Texts of some signs, from least to most of them, perhaps quoted and filled."""

    def __init__(self, signs, *, least=0, most=None, quote=None, width=0, fill=BLANK, side="left"):
        require(is_signs(signs), "signs")
        require(is_count(least), "least")
        require(is_most(most, least), "most")
        require(quote is None or is_sign(quote), "quote")
        require_filling(width, fill, side)
        self.signs = signs
        self.least = least
        self.most = most
        self.quote = quote
        self.width = width
        self.fill = fill
        self.side = side

    def has(self, thing):
        """Whether this, whatever it is, is one of its texts."""
        return (
            isinstance(thing, str) and is_length(len(thing), self.least, self.most)
            and all([sign in self.signs for sign in thing])
        )

    def write(self, thing):
        """The row of a text; NoThing of all else."""
        if not self.has(thing):
            raise NoThing(thing)
        row = thing
        if self.quote is not None:
            row = self.quote + thing.replace(self.quote, self.quote * 2) + self.quote
        return filled(row, self.width, self.fill, self.side)

    def __eq__(self, other):
        return (
            isinstance(other, Text) and self.signs == other.signs and self.least == other.least
            and self.most == other.most and self.quote == other.quote and self.width == other.width
            and self.fill == other.fill and self.side == other.side
        )


class Sizes(Kind):
    """Whole numbers from 0 on, parted by sizes, with a mark between each two parts."""

    def __init__(self, sizes, marks):
        require(are_sizes(sizes), "sizes")
        require(are_marks(marks, len(sizes)), "marks")
        self.sizes = tuple(sizes)
        self.marks = tuple(marks)

    def has(self, thing):
        """Whether this, whatever it is, is a whole number from 0 on."""
        return is_count(thing)

    def write(self, thing):
        """The row of a whole number; NoThing of all else."""
        if not self.has(thing):
            raise NoThing(thing)
        row = ""
        for size, mark in zip(self.sizes[::-1], self.marks[::-1]):
            row = mark + digits_of(thing % size).zfill(len(digits_of(size - 1))) + row
            thing //= size
        return digits_of(thing) + row

    def __eq__(self, other):
        return isinstance(other, Sizes) and self.sizes == other.sizes and self.marks == other.marks


class Record(Kind):
    """Texts and fields, one behind the other; a field may tell the width of others, and need not be written."""

    def __init__(self, pieces, *, unwritten=()):
        require(are_pieces(pieces, unwritten), "pieces")
        require(are_unwritten(unwritten, fields_of(pieces)), "unwritten")
        self.pieces = tuple(pieces)
        self.unwritten = tuple(unwritten)

    def has(self, thing):
        """Whether this, whatever it is, is a dict from just its names to things of their kinds."""
        fields = fields_of(self.pieces + self.unwritten)
        return (
            isinstance(thing, dict) and len(thing) == len(fields)
            and all([field[0] in thing and field[1].has(thing[field[0]]) for field in fields])
        )

    def write(self, thing):
        """The rows of its pieces, in order; NoThing of all else."""
        if not self.has(thing):
            raise NoThing(thing)
        return "".join([piece_row(piece, thing) for piece in self.pieces])

    def __eq__(self, other):
        return isinstance(other, Record) and self.pieces == other.pieces and self.unwritten == other.unwritten


def piece_row(piece, thing):
    """The row of a piece of a record."""
    if isinstance(piece, str):
        return piece
    if len(piece) == 3:
        return piece[1].with_width(thing[piece[2]]).write(thing[piece[0]])
    return piece[1].write(thing[piece[0]])


def fields_of(pieces):
    """The pieces that are fields."""
    return [piece for piece in pieces if isinstance(piece, tuple)]


def are_pieces(pieces, unwritten):
    """Whether these are pieces of unlike names, whose widths are told by others of them, or by unwritten ones."""
    if not is_sequence(pieces) or not all([is_piece(piece) for piece in pieces]):
        return False
    told = list(pieces) + (list(unwritten) if is_sequence(unwritten) else [])
    widths = {part[0]: True for part in told if is_width_field(part)}
    return have_unlike_names(fields_of(pieces)) and all([is_told(piece, widths) for piece in pieces])


def is_told(piece, widths):
    """Whether a piece has its width told by one of these, if it needs one."""
    return isinstance(piece, str) or len(piece) == 2 or piece[2] in widths


def are_unwritten(unwritten, fields):
    """Whether these are such as tell widths, of names that are unlike, and unlike those of the fields."""
    return (
        is_sequence(unwritten) and all([is_width_field(part) for part in unwritten])
        and have_unlike_names(fields + list(unwritten))
    )


def have_unlike_names(parts):
    """Whether no two of these begin with one name."""
    return len({part[0] for part in parts}) == len(parts)


def is_piece(thing):
    """Whether this is a piece of a record."""
    return is_some_text(thing) or is_field(thing) or is_wide(thing)


def is_field(thing):
    """Whether this is a tuple (name, kind)."""
    return isinstance(thing, tuple) and len(thing) == 2 and is_name(thing[0]) and isinstance(thing[1], Kind)


def is_wide(thing):
    """Whether this is a tuple (name, Number, other)."""
    return (
        isinstance(thing, tuple) and len(thing) == 3 and is_name(thing[0]) and isinstance(thing[1], Number)
        and is_name(thing[2])
    )


def is_width_field(thing):
    """Whether this is a tuple (name, Number) whose numbers are widths."""
    if not is_field(thing) or not isinstance(thing[1], Number) or thing[1].word.kind != "whole":
        return False
    least, most = thing[1].least, thing[1].most
    return least is not None and least >= 0 and most is not None and most <= WIDEST


class Listing(Kind):
    """Lists of things of a kind, from least to most of them, with a text between each two rows."""

    def __init__(self, kind, between, *, least=0, most=None):
        require(isinstance(kind, Kind), "kind")
        require(is_some_text(between), "between")
        require(is_count(least), "least")
        require(is_most(most, least), "most")
        self.kind = kind
        self.between = between
        self.least = least
        self.most = most

    def has(self, thing):
        """Whether this, whatever it is, is one of its lists."""
        return (
            isinstance(thing, list) and is_length(len(thing), self.least, self.most)
            and all([self.kind.has(one) for one in thing])
        )

    def write(self, thing):
        """The row of a list; NoThing of all else."""
        if not self.has(thing):
            raise NoThing(thing)
        return self.between.join([self.kind.write(one) for one in thing])

    def __eq__(self, other):
        return (
            isinstance(other, Listing) and self.kind == other.kind and self.between == other.between
            and self.least == other.least and self.most == other.most
        )


class Cases(Kind):
    """Kinds by tags: its things are tuples (tag, thing)."""

    def __init__(self, cases):
        require(is_sequence(cases) and len(cases) > 0 and all([is_field(case) for case in cases])
                and have_unlike_names(cases), "cases")
        self.cases = tuple(cases)

    def has(self, thing):
        """Whether this, whatever it is, is a tuple of one of its tags and a thing of this tag's kind."""
        return (
            isinstance(thing, tuple) and len(thing) == 2
            and any([tag == thing[0] and kind.has(thing[1]) for tag, kind in self.cases])
        )

    def write(self, thing):
        """The row of the thing by its tag's kind; NoThing of all else."""
        if not self.has(thing):
            raise NoThing(thing)
        return "".join([kind.write(thing[1]) for tag, kind in self.cases if tag == thing[0]])

    def __eq__(self, other):
        return isinstance(other, Cases) and self.cases == other.cases


class Padded(Kind):
    """A kind's things, the row filled."""

    def __init__(self, kind, width, *, fill=BLANK, side="right"):
        require(isinstance(kind, Kind), "kind")
        require_filling(width, fill, side)
        self.kind = kind
        self.width = width
        self.fill = fill
        self.side = side

    def has(self, thing):
        """Whether this, whatever it is, is one of the kind's things."""
        return self.kind.has(thing)

    def write(self, thing):
        """The kind's row, filled; NoThing of all else."""
        return filled(self.kind.write(thing), self.width, self.fill, self.side)

    def __eq__(self, other):
        return (
            isinstance(other, Padded) and self.kind == other.kind and self.width == other.width
            and self.fill == other.fill and self.side == other.side
        )


class Named(Kind):
    """What stands for the kind that a book has by a name; by itself it has no things."""

    def __init__(self, name):
        require(is_book_name(name), "name")
        self.name = name

    def has(self, thing):
        """False: its things are those of another kind."""
        return False

    def write(self, thing):
        """NoThing, always."""
        raise NoThing(thing)

    def __eq__(self, other):
        return isinstance(other, Named) and self.name == other.name
