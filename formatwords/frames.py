"""What may stand in each pair of brackets of a kind's text, word by word."""

from formatwords.errors import NoText
from formatwords.kindlooks import is_name
from formatwords.kinds import Cases, Choice, Listing, Named, Number, Only, Padded, Record, Sizes, Text
from formatwords.packing import NONE, number_in, unpacked, whole_of
from formatwords.words import SIDES
from formatwords.wordtexts import read_word

# For each form what stands behind its word, in order.
FORMS = {
    "number": ("word", "bound", "bound", "left", "by", "text", "text"),
    "only": ("number", "text"),
    "text": ("text", "whole", "most", "quote", "whole", "sign", "side"),
    "list": ("kind", "text", "whole", "most"),
    "padded": ("kind", "whole", "sign", "side"),
    "named": ("name",),
    "field": ("name", "kind"),
    "wide": ("name", "kind", "name"),
    "hidden": ("name", "kind"),
    "case": ("name", "kind"),
    "whole": ("kind",),
}
KIND_WORDS = ("number", "only", "choice", "text", "sizes", "record", "list", "cases", "padded", "named")
PIECE_WORDS = ("field", "wide", "hidden")
OPENING = ("kind", "piece", "case")


class Frame:
    """A pair of brackets as far as it is read: what it is for, its form once that is known, and its parts."""

    def __init__(self, use, around):
        self.use = use
        self.around = around
        self.form = use if use in ("case", "whole") else None
        self.parts = []
        self.hidden = []

    def awaited(self):
        """What may stand next."""
        if self.form is None:
            return ("form",)
        if self.form == "sizes":
            return awaited_sizes(self.parts)
        if self.form == "record":
            return ("piece", "close") if len(self.hidden) > 0 else ("piece", "text", "close")
        if self.form in ("choice", "cases"):
            slot = "kind" if self.form == "choice" else "case"
            return (slot,) if len(self.parts) == 0 else (slot, "close")
        slots = FORMS[self.form]
        return slots[len(self.parts):len(self.parts) + 1] if len(self.parts) < len(slots) else ("close",)

    def opens(self):
        """What a bracket that opens next is for, or None where none may."""
        found = [slot for slot in self.awaited() if slot in OPENING]
        return found[0] if len(found) > 0 else None

    def may_close(self):
        """Whether the bracket that closes may stand next; round all there is none."""
        return "close" in self.awaited() and self.form != "whole"

    def take(self, word):
        """Whether a word that is no bracket may stand next: it is taken then."""
        for slot in self.awaited():
            if slot == "form" and word in self.form_words():
                self.form = word
                return True
            for part in self.values_of(slot, word):
                self.parts.append(part)
                return True
        return False

    def form_words(self):
        """The words that tell what a bracket is."""
        if self.use == "kind":
            return KIND_WORDS
        return ("hidden",) if len(self.around.hidden) > 0 else PIECE_WORDS

    def values_of(self, slot, word):
        """What a word is by what it is awaited as, in a list; none where it is nothing so."""
        if slot == "by":
            return none_of(word) if self.parts[-1] is None else whole_of(word)
        return slot_values(slot, word)

    def put(self, form, part):
        """One part more, which stood in brackets."""
        if form == "hidden":
            self.hidden.append(part)
        else:
            self.parts.append(part)

    def made(self):
        """What these brackets are, a kind or a part of one; NoKind where no kind can be made so."""
        parts = self.parts
        if self.form in PIECE_WORDS or self.form == "case":
            return tuple(parts)
        if self.form == "record":
            return Record(parts, unwritten=self.hidden)
        if self.form == "choice":
            return Choice(parts)
        if self.form == "sizes":
            half = len(parts) // 2
            return Sizes(parts[:half], parts[half:])
        if self.form == "cases":
            return Cases(parts)
        return made_of(self.form, parts)


def made_of(form, parts):
    """The kind of a form in which each part has its place."""
    if form == "number":
        word, least, most, left, by, ahead, behind = parts
        rest = None if left is None else (left, by)
        return Number(word, least=least, most=most, rest=rest, ahead=ahead, behind=behind)
    if form == "only":
        return Only(parts[0], parts[1])
    if form == "text":
        signs, least, most, quote, width, fill, side = parts
        return Text(signs, least=least, most=most, quote=quote, width=width, fill=fill, side=side)
    if form == "list":
        return Listing(parts[0], parts[1], least=parts[2], most=parts[3])
    if form == "padded":
        return Padded(parts[0], parts[1], fill=parts[2], side=parts[3])
    return Named(parts[0])


def awaited_sizes(parts):
    """What may stand next among sizes and marks: as many marks as there are sizes."""
    marks = [part for part in parts if isinstance(part, str)]
    sizes = len(parts) - len(marks)
    if len(marks) == 0:
        return ("whole",) if sizes == 0 else ("whole", "text")
    return ("text",) if len(marks) < sizes else ("close",)


def slot_values(slot, word):
    """What a word is by what it is awaited as, in a list; none where it is nothing so."""
    if slot in ("text", "sign", "quote"):
        texts = unpacked(word)
        found = texts if slot == "text" else [text for text in texts if len(text) == 1]
        return found + none_of(word) if slot == "quote" else found
    if slot == "word":
        return words_of(word)
    if slot in ("whole", "most", "left"):
        return whole_of(word) if slot == "whole" else whole_of(word) + none_of(word)
    if slot in ("number", "bound"):
        return number_in(word) if slot == "number" else number_in(word) + none_of(word)
    if slot == "side":
        return [word] if word in SIDES else []
    if slot == "name":
        return [word] if is_name(word) else []
    return []


def words_of(word):
    """The Word of a packed text, in a list; none where it is none."""
    try:
        return [read_word(text) for text in unpacked(word)]
    except NoText:
        return []


def none_of(word):
    """None, in a list; none where the word is not the one for it."""
    return [None] if word == NONE else []
