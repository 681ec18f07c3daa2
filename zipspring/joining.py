"""Machines put together [10]."""

from zipspring.errors import TooBig
from zipspring.least import least
from zipspring.machines import MOST_STATES


def least_allowed(states):
    """The least machine of the row of state 0; there may be more states than a machine has, if its own are few."""
    told = least(states)
    if len(told) > MOST_STATES:
        raise TooBig(f"a machine of {len(told)} states")
    return told


def moved(machine, by):
    """The machine's states, with that much added to their numbers."""
    return [(sign, even + by, odd + by) for sign, even, odd in machine]


def begun_at(machine, first):
    """A machine whose row is that of a state of this one."""
    # The state is put ahead of all once more, so that the numbers of all others just grow by one.
    sign, even, odd = machine[first]
    return least_allowed([(sign, even + 1, odd + 1)] + moved(machine, 1))


def ahead(sign, machine):
    # With a sign ahead, the even places have the sign ahead of the odd row, and the odd places have the even row.
    many = len(machine)
    begun = [(sign, odd, even + many) for first, even, odd in machine]
    return least_allowed(begun + moved(machine, many))


def behind(machine):
    # Without the first sign, the even places have the odd row, and the odd places the even row without its first sign.
    many = len(machine)
    cut = [(machine[odd][0], odd + many, even) for sign, even, odd in machine]
    return least_allowed(cut + moved(machine, many))


def zipped(one, other):
    first = (one[0][0], 1, 1 + len(one))
    return least_allowed([first] + moved(one, 1) + moved(other, 1 + len(one)))


def evens(machine):
    return begun_at(machine, machine[0][1])


def odds(machine):
    return begun_at(machine, machine[0][2])
