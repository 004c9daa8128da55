"""A book: kinds by names through every change, and a log of what was written by them."""

from formatwords.asking import apart_by, clear_by
from formatwords.deeds import is_deed, shelf_after
from formatwords.errors import NoDeed, NoName, TooFar, Unkept
from formatwords.kindmachines import machine_of
from formatwords.kindtexts import kind_text
from formatwords.plain import copied, is_within
from formatwords.shelves import Shelf, whole_kinds


class Decisions:
    """What was decided of kinds, by their texts: so each is decided once, however many deeds there are."""

    def __init__(self):
        self.known = {}
        self.machines = {}

    def machine(self, kind, text):
        """The Machine of the kind with this text."""
        if text not in self.machines:
            self.machines[text] = machine_of(kind)
        return self.machines[text]

    def alike(self, kind, text):
        """The least row of two things of the kind with this text, and both; None where it is clear."""
        if text not in self.known:
            told = clear_by(kind, self.machine(kind, text))
            self.known[text] = told[1:] if told[0] == "alike" else None
        return self.known[text]

    def met(self, one, other, texts):
        """The least row that the kinds with these texts both write, and a thing of each; None where they are apart."""
        if texts not in self.known:
            told = apart_by(one, other, self.machine(one, texts[0]), self.machine(other, texts[1]))
            self.known[texts] = told[1:] if told[0] == "met" else None
        return self.known[texts]

    def require_kept(self, shelf):
        """Unkept of the first that is kept clear and isn't, then of the first two that are kept apart and aren't."""
        names = list(shelf.clears) + [name for pair in shelf.pairs for name in pair]
        whole = whole_kinds(shelf.kinds, names)
        texts = {name: kind_text(whole[name]) for name in whole}
        for name in sorted(shelf.clears):
            found = self.alike(whole[name], texts[name])
            if found is not None:
                raise Unkept(name, None, found[0], found[1], found[2])
        for name, other in sorted(shelf.pairs):
            found = self.met(whole[name], whole[other], (texts[name], texts[other]))
            if found is not None:
                raise Unkept(name, other, found[0], found[1], found[2])


class Book:
    """Kinds by names, what is kept of them, and a log."""

    def __init__(self):
        self.shelf = Shelf({}, {}, {})
        self.past = []
        self.entries = []
        self.decisions = Decisions()

    def do(self, deed):
        """A deed is done."""
        self.do_all([deed])

    def do_all(self, deeds):
        """Several deeds are done at once, all of them or none."""
        if not isinstance(deeds, list):
            raise NoDeed(0)
        for at, deed in enumerate(deeds):
            if not is_deed(deed):
                raise NoDeed(at)
        if len(deeds) == 0:
            return
        shelf = self.shelf
        for deed in deeds:
            shelf = shelf_after(shelf, deed)
        self.decisions.require_kept(shelf)
        self.past.append(self.shelf)
        self.shelf = shelf

    def undo(self):
        """Takes back the last that isn't undone; whether there was one."""
        if len(self.past) == 0:
            return False
        self.shelf = self.past.pop()
        return True

    def names(self):
        """All names, rising."""
        return sorted(self.shelf.kinds)

    def kind_of(self, name):
        """The kind of a name, as it was told; NoName."""
        if not isinstance(name, str) or name not in self.shelf.kinds:
            raise NoName(name)
        return self.shelf.kinds[name]

    def whole_kind(self, name):
        """The kind of a name with no Named in it; NoName."""
        self.kind_of(name)
        return whole_kinds(self.shelf.kinds, [name])[name]

    def kept(self):
        """The names that are kept clear, and the pairs that are kept apart, rising."""
        return sorted(self.shelf.clears), sorted(self.shelf.pairs)

    def write(self, name, thing):
        """The row of a thing by a name, which the log has then; NoName, NoThing."""
        row = self.whole_kind(name).write(thing)
        self.entries.append((name, row, copied(thing)))
        return row

    def log(self):
        """All names and rows that were written."""
        return [(name, row) for name, row, thing in self.entries]

    def logged(self, number):
        """The thing of a number in the log; TooFar."""
        return copied(self.entry(number)[2])

    def rewritten(self, number):
        """The row of the thing of a number in the log by today's kind of its name; TooFar, NoName, NoThing."""
        name, row, thing = self.entry(number)
        return self.whole_kind(name).write(thing)

    def entry(self, number):
        """What the log has by a number; TooFar."""
        if not is_within(number, 0, len(self.entries) - 1):
            raise TooFar(len(self.entries))
        return self.entries[number]

    def __eq__(self, other):
        return (
            isinstance(other, Book) and self.shelf.kinds == other.shelf.kinds
            and self.shelf.clears == other.shelf.clears and self.shelf.pairs == other.shelf.pairs
        )

    def __len__(self):
        return len(self.shelf.kinds)
