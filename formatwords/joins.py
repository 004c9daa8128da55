"""Machines made of texts and of other Machines, such that each text has just as many runs as told."""

from formatwords.errors import Endless
from formatwords.nets import again_net, as_machine, as_net, both_net, either_net, has_empty_run, text_net, then_net


def text_machine(text):
    """A Machine with one run of this text, and none of others."""
    return as_machine(text_net(text))


def either(machines):
    """A Machine of which each text has as many runs as it has of all these together."""
    return as_machine(either_net([as_net(machine) for machine in machines]))


def then(machines):
    """A Machine of which a text has, for each way to part it among these in order, the product of their runs."""
    return as_machine(then_net([as_net(machine) for machine in machines]))


def again(machine, between, *, least=0, most=None):
    """A Machine of least to most of this one, with a text between each two; Endless where runs would not end."""
    net = as_net(machine)
    if between == "" and most is None and has_empty_run(net):
        raise Endless()
    return as_machine(again_net(net, between, least, most))


def both(one, other):
    """A Machine of which each text has the product of its runs of these two."""
    return as_machine(both_net(as_net(one), as_net(other)))
