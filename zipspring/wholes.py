"""Whole numbers among other things [2]."""


def is_below(thing, bound):
    """Whether a thing is a whole number from 0 on that is below the bound."""
    # A truth is an int for Python, but no whole number here.
    return isinstance(thing, int) and not isinstance(thing, bool) and 0 <= thing < bound
