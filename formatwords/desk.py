"""A desk: it is told rows of words, and answers with texts."""

from formatwords.asking import kind_clear, kind_counted, kinds_apart
from formatwords.book import Book
from formatwords.deeds import DEEDS
from formatwords.digits import signed_digits
from formatwords.errors import NoAsk
from formatwords.kindlooks import is_book_name
from formatwords.kindtexts import read_kind
from formatwords.packing import packed, unpacked, whole_of
from formatwords.reading import fault, read_one, turned

# What stands behind the first word of each row that is no deed.
ROWS = {
    "clear": ("name",),
    "meet": ("name", "name"),
    "fault": ("name", "text"),
    "many": ("name", "number"),
    "turn": ("name", "name", "text"),
    "put": ("name", "text"),
    "undo": (),
    "again": ("number",),
    "log": (),
    "names": (),
}
ASKING_WORDS = ("clear", "meet", "fault", "many", "turn", "put")
MOST_FIGURES = 9
NOTHING = "-"
DONE = "ok"


class Desk:
    """A book that is told rows."""

    def __init__(self):
        self.book = Book()

    def say(self, row):
        """The answer to a row; NoAsk of what is none, NoName, and as the stages refuse."""
        if not isinstance(row, str):
            raise NoAsk(row)
        word, parts = parts_of(row)
        if word in DEEDS:
            if word in ("define", "change"):
                parts = [parts[0], read_kind(parts[1])]
            self.book.do((word, *parts))
            return DONE
        if word in ASKING_WORDS:
            kinds = [self.book.whole_kind(part) for slot, part in zip(ROWS[word], parts) if slot == "name"]
            return self.answer(word, parts, kinds)
        if word == "undo":
            return DONE if self.book.undo() else "none"
        if word == "again":
            return packed(self.book.rewritten(parts[0]))
        if word == "log":
            return listed([f"{name} {packed(told)}" for name, told in self.book.log()])
        return listed(self.book.names())

    def answer(self, word, parts, kinds):
        """The answer to a row that asks of these kinds."""
        if word == "clear":
            told = kind_clear(kinds[0])
            return "clear" if told[0] == "clear" else packed(told[1])
        if word == "meet":
            told = kinds_apart(kinds[0], kinds[1])
            return "apart" if told[0] == "apart" else packed(told[1])
        if word == "fault":
            at = fault(kinds[0], parts[1])
            return "row" if at is None else signed_digits(at)
        if word == "many":
            return signed_digits(kind_counted(kinds[0], parts[1]))
        if word == "turn":
            return packed(turned(kinds[0], kinds[1], parts[2]))
        self.book.write(parts[0], read_one(kinds[0], parts[1]))
        return signed_digits(len(self.book.log()) - 1)


def listed(parts):
    """Several things, parted by blanks."""
    return " ".join(parts) if len(parts) > 0 else NOTHING


def parts_of(row):
    """The first word of a row, and what stands behind it as names, numbers and texts; NoAsk where it is no such row."""
    word, blank, rest = row.partition(" ")
    if word not in DEEDS and word not in ROWS:
        raise NoAsk(row)
    slots = DEEDS[word] if word in DEEDS else ROWS[word]
    words = rest.split(" ") if blank != "" else []
    if "kind" in slots:
        # A kind's text is all that is left: what is wrong in it is told by those who read it.
        name, blank, text = rest.partition(" ")
        words = [name, text] if blank != "" else []
    if len(words) != len(slots):
        raise NoAsk(row)
    parts = []
    for slot, one in zip(slots, words):
        values = values_of(slot, one)
        if len(values) == 0:
            raise NoAsk(row)
        parts.extend(values)
    return word, parts


def values_of(slot, word):
    """What a word is by where it stands, in a list; none where it can't stand there."""
    if slot == "name":
        return [word] if is_book_name(word) else []
    if slot == "number":
        return [number for number in whole_of(word) if number >= 0 and len(word) <= MOST_FIGURES]
    if slot == "text":
        return unpacked(word)
    return [word]
