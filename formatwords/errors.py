"""The refusals: each has what it is made of as fields."""

from formatwords.plain import copied


class NoDigits(ValueError):
    """A text is not digits of a base: at is the number of the first sign that is none."""

    def __init__(self, at):
        self.at = at


class NoWord(ValueError):
    """No Word can be made: field is the name of what is not right."""

    def __init__(self, field):
        self.field = field


class NoText(ValueError):
    """A text is not written as it must be: at is where it fails."""

    def __init__(self, at):
        self.at = at


class NoMachine(ValueError):
    """No Machine can be made: field is the name of what is not right."""

    def __init__(self, field):
        self.field = field


class NoRange(ArithmeticError):
    """There is no fraction between two ends."""


class Nought(ZeroDivisionError):
    """A fraction has the bottom 0: top is its top."""

    def __init__(self, top):
        self.top = top


class NoKind(TypeError):
    """No kind can be made: field is the name of what is not right."""

    def __init__(self, field):
        self.field = field


class NoThing(LookupError):
    """A kind does not have this thing."""

    def __init__(self, thing):
        self.thing = copied(thing)


class NoRow(LookupError):
    """A text is no row: at is how far rows go along with it."""

    def __init__(self, at):
        self.at = at


class NoName(KeyError):
    """A book does not have this name."""

    def __init__(self, name):
        self.name = copied(name)


class Taken(KeyError):
    """A book has this name already."""

    def __init__(self, name):
        self.name = name


class TooFar(IndexError):
    """A number is beyond the last one: many is how many there are."""

    def __init__(self, many):
        self.many = many


class Endless(OverflowError):
    """A text would have runs without end."""


class Unclear(RuntimeError):
    """A text is written of two things or more."""

    def __init__(self, text):
        self.text = text


class Needed(RuntimeError):
    """A name can't be dropped: the kind of the name by needs it."""

    def __init__(self, name, by):
        self.name = name
        self.by = by


class Ring(RuntimeError):
    """Kinds come back to themselves: ring is their names, from one back to it."""

    def __init__(self, ring):
        self.ring = copied(ring)


class Unkept(RuntimeError):
    """What is kept would not hold: both things would be written as this text."""

    def __init__(self, name, other, text, one, two):
        self.name = name
        self.other = other
        self.text = text
        self.one = copied(one)
        self.two = copied(two)


class NoDeed(NotImplementedError):
    """What a book is told is no deed: at is its number."""

    def __init__(self, at):
        self.at = at


class NoAsk(Exception):
    """What a desk is told is no row that it knows."""

    def __init__(self, row):
        self.row = copied(row)
