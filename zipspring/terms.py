"""Signs, names and terms [4]."""

from zipspring.wholes import is_below

LONGEST_NAME = 8
WORDS_OF_TERMS = ("zip", "behind")
MANY_SIGNS = 10
MOST_WITHIN = 10
MOST_IN_ALL = 20


def is_sign(thing):
    return is_below(thing, MANY_SIGNS)


def is_name(thing):
    if not isinstance(thing, str) or thing in WORDS_OF_TERMS:
        return False
    return 1 <= len(thing) <= LONGEST_NAME and all(["a" <= letter <= "z" for letter in thing])


def has_form(thing):
    """Whether a thing is made like a term, whatever stands where terms must stand within it."""
    if not isinstance(thing, tuple) or len(thing) == 0:
        return False
    if thing[0] == "row":
        return len(thing) == 2 and is_name(thing[1])
    if thing[0] == "sign":
        return len(thing) == 3 and is_sign(thing[1])
    if thing[0] == "behind":
        return len(thing) == 2
    return thing[0] == "zip" and len(thing) == 3


def parts_of(term):
    """A new list of what stands right within what has the form of a term."""
    if term[0] == "row":
        return []
    if term[0] == "sign":
        return [term[2]]
    return list(term[1:])


def is_term(thing):
    # Level by level, so that neither a deep thing nor a wide one is looked at further than a term can reach.
    level = [thing]
    within = 0
    in_all = 0
    while level:
        within += 1
        in_all += len(level)
        if within > MOST_WITHIN or in_all > MOST_IN_ALL:
            return False
        if not all([has_form(part) for part in level]):
            return False
        level = [part for term in level for part in parts_of(term)]
    return True


def names_in(term):
    """A new sorted list of the term's names, each once."""
    found = set()
    waiting = [term]
    while waiting:
        here = waiting.pop()
        if here[0] == "row":
            found.add(here[1])
        waiting.extend(parts_of(here))
    return sorted(found)
