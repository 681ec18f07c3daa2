"""Books: names, each with its term [4]."""

from zipspring.errors import NoName
from zipspring.terms import is_name, is_term, names_in

MOST_EQUATIONS = 8


def is_equation(thing):
    return isinstance(thing, tuple) and len(thing) == 2 and is_name(thing[0]) and is_term(thing[1])


def is_book(thing):
    if not isinstance(thing, tuple) or len(thing) > MOST_EQUATIONS:
        return False
    # Names are compared only behind this: a thing that is no name may be a list, which no set can hold.
    if not all([is_equation(pair) for pair in thing]):
        return False
    names = [pair[0] for pair in thing]
    met = [name for pair in thing for name in names_in(pair[1])]
    return len(set(names)) == len(names) and all([name in names for name in met])


def term_of(book, name):
    """The term of a name of the book."""
    for known, term in book:
        if known == name:
            return term
    raise NoName(f"no equation has the name {name}")
