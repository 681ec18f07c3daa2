"""Whether a row turns [17]."""

from zipspring.alike import alike
from zipspring.joining import behind


def without(machine, many):
    """The machine of the row without that many first signs; TooBig where it is too big, or one on the way is."""
    told = machine
    for step in range(many):
        told = behind(told)
    return told


def turns(machine, q, p):
    begun = without(machine, q)
    told = alike(begun, without(begun, p))
    return q + told[1] if told[0] == "unlike" else None
