"""Kinds written by words, and read back."""

from formatwords.errors import NoKind, NoText
from formatwords.frames import Frame
from formatwords.kinds import Cases, Choice, Listing, Number, Only, Padded, Record, Sizes, Text
from formatwords.packing import NONE, number_text, packed


def kind_text(kind):
    """The text of a kind."""
    return " ".join(kind_words(kind))


def kind_words(kind):
    """The words of a kind's text, brackets too."""
    if isinstance(kind, Choice):
        return bracketed("choice", [kind_words(one) for one in kind.kinds])
    if isinstance(kind, Record):
        hidden = [bracketed("hidden", [[name], kind_words(one)]) for name, one in kind.unwritten]
        return bracketed("record", [piece_words(piece) for piece in kind.pieces] + hidden)
    if isinstance(kind, Listing):
        rest = [packed(kind.between), number_text(kind.least), number_text(kind.most)]
        return bracketed("list", [kind_words(kind.kind), rest])
    if isinstance(kind, Cases):
        return bracketed("cases", [bracketed(tag, [kind_words(one)]) for tag, one in kind.cases])
    if isinstance(kind, Padded):
        return bracketed("padded", [kind_words(kind.kind), filling_words(kind)])
    return plain_words(kind)


def plain_words(kind):
    """The words of a kind that has no other one in it."""
    if isinstance(kind, Number):
        left, by = (None, None) if kind.rest is None else kind.rest
        numbers = [number_text(number) for number in (kind.least, kind.most, left, by)]
        return bracketed("number", [[packed(str(kind.word)), *numbers, packed(kind.ahead), packed(kind.behind)]])
    if isinstance(kind, Only):
        return bracketed("only", [[number_text(kind.thing), packed(kind.row)]])
    if isinstance(kind, Text):
        quote = NONE if kind.quote is None else packed(kind.quote)
        bounds = [number_text(kind.least), number_text(kind.most)]
        return bracketed("text", [[packed(kind.signs), *bounds, quote], filling_words(kind)])
    if isinstance(kind, Sizes):
        return bracketed("sizes", [[number_text(size) for size in kind.sizes], [packed(mark) for mark in kind.marks]])
    return bracketed("named", [[kind.name]])


def bracketed(word, rows):
    """All these rows of words behind a word, in brackets."""
    return ["(", word] + [part for row in rows for part in row] + [")"]


def filling_words(kind):
    """The words of a kind for width, fill and side."""
    return [number_text(kind.width), packed(kind.fill), kind.side]


def piece_words(piece):
    """The words of a piece of a Record."""
    if isinstance(piece, str):
        return [packed(piece)]
    if len(piece) == 3:
        return bracketed("wide", [[piece[0]], kind_words(piece[1]), [piece[2]]])
    return bracketed("field", [[piece[0]], kind_words(piece[1])])


def read_kind(text):
    """The kind that is just so written; NoText of all else."""
    if not isinstance(text, str):
        raise NoText(0)
    # One frame for each bracket that is not closed; the first is round all.
    frames = [Frame("whole", None)]
    words = text.split(" ")
    for at, word in enumerate(words):
        last = frames[-1]
        if word == "(" and last.opens() is not None:
            frames.append(Frame(last.opens(), last))
        elif word == ")" and last.may_close():
            frames.pop()
            give_back(last, at)
        elif not last.take(word):
            raise NoText(at)
    if len(frames) > 1 or len(frames[0].parts) == 0:
        raise NoText(len(words))
    return frames[0].parts[0]


def give_back(frame, at):
    """Gives what a closed bracket is to the frame around it; NoText where it is nothing."""
    try:
        frame.around.put(frame.form, frame.made())
    except NoKind:
        raise NoText(at) from None
