"""Machines of kinds."""

from formatwords.kindnets import kind_net
from formatwords.nets import as_machine


def machine_of(kind):
    """A Machine of which each text has as many runs as the kind has things with this row."""
    return as_machine(kind_net(kind))
