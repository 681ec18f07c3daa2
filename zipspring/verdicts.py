"""Which names have just one row by the equations of a book [11]."""

from zipspring.alike import alike
from zipspring.errors import NoName
from zipspring.joining import least_allowed
from zipspring.states import all_states, first_sign, numbered


def filled(signs, steps, free):
    """The states of a machine, with that sign wherever the sign is free."""
    return [(free if sign is None else sign, even, odd) for sign, (even, odd) in zip(signs, steps)]


def verdict(book, name):
    names = [known for known, term in book]
    if name not in names:
        raise NoName(f"no equation has the name {name}")
    states, steps = all_states(numbered(book), names.index(name))
    signs = [first_sign(states, steps, number) for number in range(len(states))]
    # Both rows are alike but where the sign is free: so what parts them first is the least free place.
    one = filled(signs, steps, 0)
    told = alike(one, filled(signs, steps, 1))
    if told[0] == "unlike":
        return ("more", told[1])
    return ("one", least_allowed(one))
