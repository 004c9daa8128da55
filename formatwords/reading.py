"""Rows read back as things of kinds."""

from formatwords.errors import NoRow, Unclear
from formatwords.kindmachines import machine_of
from formatwords.machines import far, runs
from formatwords.parsing import things_of
from formatwords.plain import copied


def fault(kind, text):
    """None where a text is some thing's row; else how many of its signs some row begins with, 0 where there is none."""
    machine = machine_of(kind)
    if runs(machine, text) > 0:
        return None
    at = far(machine, text)
    return 0 if at is None else at


def read(kind, text):
    """The things whose row a text is: all of them where these are two at most, else two unlike ones."""
    # Two things may have a part in common; told, each has its own.
    return [copied(thing) for thing in things_of(kind, text, {}, ())]


def read_one(kind, text):
    """The one thing whose row a text is; NoRow where there is none, Unclear where there are more."""
    things = read(kind, text)
    if len(things) == 0:
        raise NoRow(fault(kind, text))
    if len(things) > 1:
        raise Unclear(text)
    return things[0]


def turned(kind, other, text):
    """The row that another kind writes of the one thing that a kind reads; refused as read_one, then NoThing."""
    return other.write(read_one(kind, text))
