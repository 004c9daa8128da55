"""Deeds: what each does to a shelf of kinds, and when it is refused."""

from formatwords.errors import Needed, NoName, Ring, Taken
from formatwords.kindlooks import is_book_name
from formatwords.kinds import Kind, Named
from formatwords.shelves import Shelf, exchanged, first_ring, nameds_of

# What stands behind the word of each deed.
DEEDS = {
    "define": ("name", "kind"),
    "change": ("name", "kind"),
    "drop": ("name",),
    "rename": ("name", "name"),
    "keep": ("name",),
    "apart": ("name", "name"),
    "free": ("name",),
}


def is_deed(thing):
    """Whether this, whatever it is, is a deed by its word, its count, names and kinds."""
    if not isinstance(thing, tuple) or len(thing) == 0 or not isinstance(thing[0], str) or thing[0] not in DEEDS:
        return False
    slots = DEEDS[thing[0]]
    if len(thing) != len(slots) + 1:
        return False
    right = [is_book_name(part) if slot == "name" else isinstance(part, Kind) for slot, part in zip(slots, thing[1:])]
    return all(right) and (thing[0] != "apart" or thing[1] != thing[2])


def shelf_after(shelf, deed):
    """The shelf behind a deed; Taken, NoName, Needed or Ring where it is refused. What is kept is not looked at."""
    word, name = deed[0], deed[1]
    if word in ("define", "change"):
        return after_kind(shelf, word, name, deed[2])
    if word == "rename":
        return after_rename(shelf, name, deed[2])
    require_names(shelf, list(deed[1:]))
    if word == "drop":
        return after_drop(shelf, name)
    if word == "free":
        return freed(shelf, name)
    if word == "keep":
        return Shelf(shelf.kinds, {**shelf.clears, name: True}, shelf.pairs)
    pairs = {pair: True for pair in shelf.pairs}
    pairs[risen(name, deed[2])] = True
    return Shelf(shelf.kinds, shelf.clears, pairs)


def require_names(shelf, names):
    """NoName of the first of these names that isn't there."""
    for name in names:
        if name not in shelf.kinds:
            raise NoName(name)


def risen(one, other):
    """The two names, rising."""
    return (one, other) if one < other else (other, one)


def after_kind(shelf, word, name, kind):
    """The shelf with a name's kind, told for the first time or anew."""
    if word == "define" and name in shelf.kinds:
        raise Taken(name)
    further = Shelf({**shelf.kinds, name: kind}, shelf.clears, shelf.pairs)
    require_names(shelf if word == "change" else further, [name])
    require_names(further, nameds_of(kind))
    require_no_ring(further.kinds)
    return further


def require_no_ring(kinds):
    """Ring where kinds come back to themselves."""
    ring = first_ring(kinds)
    if ring is not None:
        raise Ring(ring)


def after_drop(shelf, name):
    """The shelf without a name."""
    for other in sorted(shelf.kinds):
        if name in nameds_of(shelf.kinds[other]):
            raise Needed(name, other)
    left = freed(shelf, name)
    return Shelf({other: left.kinds[other] for other in left.kinds if other != name}, left.clears, left.pairs)


def freed(shelf, name):
    """The shelf with nothing kept of a name."""
    clears = {other: True for other in shelf.clears if other != name}
    return Shelf(shelf.kinds, clears, {pair: True for pair in shelf.pairs if name not in pair})


def after_rename(shelf, name, other):
    """The shelf with another name in place of one, everywhere."""
    if other in shelf.kinds:
        raise Taken(other)
    require_names(shelf, [name])
    names = {one: one for one in shelf.kinds}
    names[name] = other
    swap = {name: Named(other)}
    return Shelf(
        {names[one]: exchanged(shelf.kinds[one], swap) for one in shelf.kinds},
        {names[one]: True for one in shelf.clears},
        {risen(names[one], names[two]): True for one, two in shelf.pairs},
    )
