"""Kinds decided: whether rows are alike, how many there are, and the number of each."""

from formatwords.counting import counted, ranked
from formatwords.deciding import apart, clear
from formatwords.kindmachines import machine_of
from formatwords.reading import read, read_one


def kind_clear(kind):
    """("alike", the least row of two things, both); else ("clear", a Machine, a paper that shows it)."""
    return clear_by(kind, machine_of(kind))


def clear_by(kind, machine):
    """The same of a kind whose Machine is made already."""
    word, told = clear(machine)
    if word == "alike":
        one, two = read(kind, told)
        return word, told, one, two
    return word, machine, told


def kinds_apart(one, other):
    """("met", the least row that both write, a thing of each); else ("apart", two Machines, a paper that shows it)."""
    return apart_by(one, other, machine_of(one), machine_of(other))


def apart_by(one, other, machine, second):
    """The same of kinds whose Machines are made already."""
    word, told = apart(machine, second)
    if word == "met":
        return word, told, read(one, told)[0], read(other, told)[0]
    return word, machine, second, told


def kind_counted(kind, long):
    """How many things have rows of so many signs."""
    return counted(machine_of(kind), long)


def kind_ranked(kind, number):
    """The text and the thing of a number among all rows; Unclear, or TooFar where there are no more than the number."""
    text = ranked(machine_of(kind), number)
    return text, read_one(kind, text)
