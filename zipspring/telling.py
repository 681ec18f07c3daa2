"""Equations told back from a machine [15]."""

from zipspring.books import MOST_EQUATIONS
from zipspring.errors import TooBig

NAMES = ("a", "b", "c", "d", "e", "f", "g", "h")


def equation_of(machine, number):
    sign, even, odd = machine[number]
    halves = ("zip", ("row", NAMES[even]), ("row", NAMES[odd]))
    # The zip's own first sign hangs on itself where a state is its own state even: so the state's sign stands there.
    return (NAMES[number], ("sign", sign, ("behind", halves)))


def book_of(machine):
    if len(machine) > MOST_EQUATIONS:
        raise TooBig(f"a machine of {len(machine)} states")
    return tuple([equation_of(machine, number) for number in range(len(machine))])
