"""What a sign hangs on, and the walk from a name and a place [7]."""

from zipspring.errors import NoName


def follow(term, n):
    """What sign n of a term hangs on, and whether a zip stands on the way there."""
    by_zip = False
    while term[0] != "row":
        if term[0] == "zip":
            term, n = term[1 + n % 2], n // 2
            by_zip = True
        elif term[0] == "behind":
            term, n = term[1], n + 1
        elif n == 0:
            return ("sign", term[1]), by_zip
        else:
            term, n = term[2], n - 1
    return ("call", term[1], n), by_zip


def hangs(term, n):
    return follow(term, n)[0]


def walk_by(terms, name, n):
    """The walk by the terms of names, a dict; ("waits", name) where it comes to a name that has none."""
    calls = []
    met = set()
    # Of each name called since the last zip, the place of its last call, which is its least one: without a zip a name
    # is never called again at a place no less, or the walk is over.
    since_zip = {}
    thing, by_zip = ("call", name, n), False
    while thing[0] == "call":
        called, place = thing[1], thing[2]
        if called not in terms:
            return ("waits", called)
        calls.append((called, place))
        if by_zip:
            since_zip = {}
        if (called, place) in met or place >= since_zip.get(called, place + 1):
            return ("free", calls)
        met.add((called, place))
        since_zip[called] = place
        thing, by_zip = follow(terms[called], place)
    return ("sign", thing[1], calls)


def walk(book, name, n):
    told = walk_by({known: term for known, term in book}, name, n)
    if told[0] == "waits":
        raise NoName(f"no equation has the name {told[1]}")
    return told
