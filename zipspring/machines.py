"""Machines: rows told by the number of the place [9]."""

from zipspring.terms import is_sign
from zipspring.wholes import is_below

MOST_STATES = 500


def is_state(thing, many):
    """Whether a thing is made like a state of a machine of that many states."""
    if not isinstance(thing, tuple) or len(thing) != 3:
        return False
    return is_sign(thing[0]) and is_below(thing[1], many) and is_below(thing[2], many)


def is_machine(thing):
    if not isinstance(thing, tuple) or not 1 <= len(thing) <= MOST_STATES:
        return False
    if not all([is_state(state, len(thing)) for state in thing]):
        return False
    # Place 0 of a state's row is place 0 of its state even's row, too.
    return all([sign == thing[even][0] for sign, even, odd in thing])


def sign_at(machine, n):
    sign, even, odd = machine[0]
    while n > 0:
        sign, even, odd = machine[odd if n % 2 == 1 else even]
        n //= 2
    return sign
